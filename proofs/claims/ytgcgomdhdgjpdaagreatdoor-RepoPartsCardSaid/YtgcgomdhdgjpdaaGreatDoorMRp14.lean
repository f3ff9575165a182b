/- What there would be behind an entry: state.behind. -/
import Derived.Test.YtgcgomdhdgjpdaaGreatDoorMRp2s
import Derived.Test.YtgcgomdhdgjpdaaGreatDoorMRp12s
import Derived.Test.YtgcgomdhdgjpdaaGreatDoorMZers
import Derived.Test.YtgcgomdhdgjpdaaGreatDoorMEn11s
import Derived.Test.YtgcgomdhdgjpdaaGreatDoorMEn15
import Derived.Test.YtgcgomdhdgjpdaaGreatDoorMUpto
namespace Go.Proofs.YtgcgomdhdgjpdaaGreatDoor
open Go Go.RowKit Go.Maps
def idV (x : List Nat) : Value := .agg (u8s x)
noncomputable def putT (O : List Nat → Option Cl.T) (t : En.Bt) : List Nat → Option Cl.T := fun x => if x = Sha.sum t.text then some ⟨t.text, t.val⟩ else O x
noncomputable def behindT (O : List Nat → Option Cl.T) (ts : List En.Bt) : List Nat → Option Cl.T := ts.foldl putT O
theorem behindT_text : ∀ (ts : List En.Bt) (O : List Nat → Option Cl.T) (x : List Nat), (behindT O ts x).map (·.text) = Rp.behindO (fun x => (O x).map (·.text)) (ts.map (·.text)) x
 | [], _, _ => rfl
 | t :: ts, O, x => by
  show (behindT (putT O t) ts x).map (·.text) = Rp.behindO (Rp.putObj (fun x => (O x).map (·.text)) t.text) (ts.map (·.text)) x
  rw [behindT_text ts]
  congr 1
  funext y
  unfold putT Rp.putObj
  split <;> rfl
theorem behindT_some : ∀ (ts : List En.Bt) (O : List Nat → Option Cl.T) (x : List Nat) (p : Cl.T), behindT O ts x = some p → O x = some p ∨ ∃ t ∈ ts, p = ⟨t.text, t.val⟩
 | [], _, _, _, h => Or.inl h
 | t :: ts, O, x, p, h => by
  rcases behindT_some ts (putT O t) x p h with h1 | ⟨u, hu, h2⟩
  ·unfold putT at h1
   split at h1
   ·injection h1 with h1
    exact Or.inr ⟨t, List.mem_cons_self .., h1.symm⟩
   ·exact Or.inl h1
  ·exact Or.inr ⟨u, List.mem_cons_of_mem _ hu, h2⟩
theorem behindT_snoc (O : List Nat → Option Cl.T) (ts : List En.Bt) (t : En.Bt) : behindT O (ts ++ [t]) = putT (behindT O ts) t := by unfold behindT; rw [List.foldl_append]; rfl
theorem behindR_snoc (f : ByteArray → Option (List Nat)) (us : List En.Up) (u : En.Up) : Rp.behindR f (us ++ [u]) = Rp.putRef (Rp.behindR f us) u := by unfold Rp.behindR; rw [List.foldl_append]; rfl
theorem mkS_made (w : World) : (Instr.makeMap 62 none).run Tryz.prog w = .ok (.map (some w.heap.size)) (w.alloc (.map #[] 0)) := by kernel_rfl
theorem mkO_made (w : World) : (Instr.makeMap 63 none).run Tryz.prog w = .ok (.map (some w.heap.size)) (w.alloc (.map #[] 0)) := by kernel_rfl
theorem oid_built : Tryz.prog.built 41 [] = some (u8s Rp.z32) := by kernel_rfl
structure BhS (w wr : World) (ca cs : Array Value) (n m : Nat) (F : ByteArray → Option Value) (G : List Nat → Option Value) : Prop where
 bel : Below w.heap.size w wr
 st : Blk wr w.heap.size 65 ca
 ent : Blk wr (w.heap.size + 1) 32 cs
 res : Blk wr (w.heap.size + 2) 65 #[.map none, .map none]
 nxt : Blk wr (w.heap.size + 5) 65 #[.map (some (w.heap.size + 3)), .map (some (w.heap.size + 4))]
 m1 : MapS wr (w.heap.size + 3) n F
 m2 : MapO wr (w.heap.size + 4) m G
section
variable {w wr w' : World} {ca cs : Array Value} {n m : Nat} {F : ByteArray → Option Value} {G : List Nat → Option Value}
theorem BhS.below (h : BhS w wr ca cs n m F G) (hb : Below wr.heap.size wr w') : BhS w w' ca cs n m F G :=
 ⟨below_next h.bel hb, h.st.below hb h.st.lt, h.ent.below hb h.ent.lt, h.res.below hb h.res.lt, h.nxt.below hb h.nxt.lt, h.m1.below hb, h.m2.below hb⟩
theorem BhS.putS (h : BhS w wr ca cs n m F G) {n' : Nat} {F' : ByteArray → Option Value} (hm : MapS w' (w.heap.size + 3) n' F') (hg : wr.grownBy w' (some (w.heap.size + 3))) : BhS w w' ca cs n' m F' G :=
 ⟨below_of_only h.bel hg (by omega), h.st.grown hg (by simp), h.ent.grown hg (by simp), h.res.grown hg (by simp), h.nxt.grown hg (by simp), hm, h.m2.kept hg (by simp)⟩
theorem BhS.putO (h : BhS w wr ca cs n m F G) {m' : Nat} {G' : List Nat → Option Value} (hm : MapO w' (w.heap.size + 4) m' G') (hg : wr.grownBy w' (some (w.heap.size + 4))) : BhS w w' ca cs n m' F G' :=
 ⟨below_of_only h.bel hg (by omega), h.st.grown hg (by simp), h.ent.grown hg (by simp), h.res.grown hg (by simp), h.nxt.grown hg (by simp), h.m1.kept hg (by simp), hm⟩
end
theorem bhS_start (w : World) (x y : Array Value) : BhS w (((((((w.alloc (.cells x 65)).alloc (.cells y 32)).alloc (.cells #[.map none, .map none] 65)).alloc (.map #[] 0)).alloc (.map #[] 0)).alloc (.cells #[.map none, .map none] 65)).setRow (w.heap.size + 5) #[.map (some (w.heap.size + 3)), .map (some (w.heap.size + 4))]) x y 0 0 (fun _ => none) (fun _ => none) := by
 obtain ⟨w1, h1⟩ : ∃ w1, w1 = w.alloc (.cells x 65) := ⟨_, rfl⟩
 obtain ⟨w2, h2⟩ : ∃ w2, w2 = w1.alloc (.cells y 32) := ⟨_, rfl⟩
 obtain ⟨w3, h3⟩ : ∃ w3, w3 = w2.alloc (.cells #[.map none, .map none] 65) := ⟨_, rfl⟩
 obtain ⟨w4, h4⟩ : ∃ w4, w4 = w3.alloc (.map #[] 0) := ⟨_, rfl⟩
 obtain ⟨w5, h5⟩ : ∃ w5, w5 = w4.alloc (.map #[] 0) := ⟨_, rfl⟩
 obtain ⟨w6, h6⟩ : ∃ w6, w6 = w5.alloc (.cells #[.map none, .map none] 65) := ⟨_, rfl⟩
 rw [← h1, ← h2, ← h3, ← h4, ← h5, ← h6]
 have z1 : w1.heap.size = w.heap.size + 1 := by rw [h1]; simp
 have z2 : w2.heap.size = w.heap.size + 2 := by rw [h2]; simp [z1]
 have z3 : w3.heap.size = w.heap.size + 3 := by rw [h3]; simp [z2]
 have z4 : w4.heap.size = w.heap.size + 4 := by rw [h4]; simp [z3]
 have z5 : w5.heap.size = w.heap.size + 5 := by rw [h5]; simp [z4]
 have b1 : Below w.heap.size w w1 := by rw [h1]; exact (Below.refl _ _).alloc (Nat.le_refl _) _
 have b2 : Below w1.heap.size w1 w2 := by rw [h2]; exact (Below.refl _ _).alloc (Nat.le_refl _) _
 have b3 : Below w2.heap.size w2 w3 := by rw [h3]; exact (Below.refl _ _).alloc (Nat.le_refl _) _
 have b4 : Below w3.heap.size w3 w4 := by rw [h4]; exact (Below.refl _ _).alloc (Nat.le_refl _) _
 have b5 : Below w4.heap.size w4 w5 := by rw [h5]; exact (Below.refl _ _).alloc (Nat.le_refl _) _
 have b6 : Below w5.heap.size w5 w6 := by rw [h6]; exact (Below.refl _ _).alloc (Nat.le_refl _) _
 have e2 : Blk w2 (w.heap.size + 1) 32 y := by have h := Blk.new w1 32 y; rw [z1] at h; rw [h2]; exact h
 have e3 : Blk w3 (w.heap.size + 2) 65 #[.map none, .map none] := by have h := Blk.new w2 65 #[.map none, .map none]; rw [z2] at h; rw [h3]; exact h
 have e4 : MapS w4 (w.heap.size + 3) 0 (fun _ => none) := by have h := MapS.made w3; rw [z3] at h; rw [h4]; exact h
 have e5 : MapO w5 (w.heap.size + 4) 0 (fun _ => none) := by have h := MapO.made w4; rw [z4] at h; rw [h5]; exact h
 have e6 : Blk w6 (w.heap.size + 5) 65 #[.map none, .map none] := by have h := Blk.new w5 65 #[.map none, .map none]; rw [z5] at h; rw [h6]; exact h
 have hg : w6.grownBy (w6.setRow (w.heap.size + 5) #[.map (some (w.heap.size + 3)), .map (some (w.heap.size + 4))]) (some (w.heap.size + 5)) := only_setRow (World.grownBy.refl w6 _) (Or.inl rfl) _
 have e1 : Blk w1 w.heap.size 65 x := by rw [h1]; exact Blk.new w _ _
 have e1' := ((((e1.below b2 e1.lt).below b3 (by omega)).below b4 (by omega)).below b5 (by omega)).below b6 (by omega)
 have e2' := ((((e2.below b3 e2.lt).below b4 (by omega)).below b5 (by omega)).below b6 (by omega))
 have e3' := (((e3.below b4 e3.lt).below b5 (by omega)).below b6 (by omega))
 have e4' := (e4.below b5).below b6
 have e5' := e5.below b6
 exact ⟨below_of_only (below_next (below_next (below_next (below_next (below_next b1 b2) b3) b4) b5) b6) hg (by omega), e1'.grown hg (by simp), e2'.grown hg (by simp), e3'.grown hg (by simp), e6.row _, e4'.kept hg (by simp), e5'.kept hg (by simp)⟩
def BhPost (w : World) (f : ByteArray → Option (List Nat)) (O : List Nat → Option Cl.T) (e : En.E) (ts : List En.Bt) (N M : Nat) (r : Ending) (w' : World) : Prop :=
 ∃ b1 b2 n m, r = .returned (.agg #[.map (some b1), .map (some b2)]) ∧ MapS w' b1 n (fun i => (Rp.behindR f e.ups i).map idV) ∧ MapO w' b2 m (fun x => (behindT O ts x).map (·.val)) ∧ n ≤ N + e.ups.length ∧ m ≤ M + e.objs.length ∧ Below w.heap.size w w'
theorem agg_idV {f : ByteArray → Option (List Nat)} (hf : ∀ i x, f i = some x → Id32 x) : ∀ i v, (f i).map idV = some v → ∃ id, Id32 id ∧ v = .agg (u8s id) := fun i v h => by
 cases hi : f i with
 | none => rw [hi] at h; cases h
 | some x =>
  rw [hi] at h
  injection h with h
  exact ⟨x, hf i x hi, h.symm⟩
set_option maxRecDepth 100000 in
set_option maxHeartbeats 4000000 in
theorem behind_any (rf ob : Value) (N M : Nat) (f : ByteArray → Option (List Nat)) (O : List Nat → Option Cl.T) (e : En.E) (cs : Array Value) (U OO : Option Addr) (cu co : Nat) (ts : List En.Bt) (w : World)
  (hs : SrcS w rf N (fun i => (f i).map idV)) (ho : SrcO w ob M (fun x => (O x).map (·.val))) (hf : ∀ i x, f i = some x → Id32 x) (hO : ∀ x p, O x = some p → ∃ A n c, p.val = .slice A n c)
  (he : EnC w e cs U cu OO co ts) (hu : e.ups.length ≤ 1000) (hno : e.objs.length ≤ 1000) (hz : ∀ x ∈ e.objs, x.length ≤ 100000) (hr : ∀ u ∈ e.ups, okS u.ref) (ht : Tabs w) (hN : N ≤ 50000) (hM : M ≤ 50000) :
  Calls Tryz.prog 25 #[.agg #[rf, ob], .agg cs] w (BhPost w f O e ts N M) := by
 have mS := mkS_made
 have mO := mkO_made
 have HSS := Lib.hid hs
 have HSO := Lib.hid ho
 have HF := Lib.hid hf
 have HO := Lib.hid hO
 have HE := Lib.hid he
 have HU := Lib.hid hu
 have HNO := Lib.hid hno
 have HZ := Lib.hid hz
 have HR := Lib.hid hr
 have HT := Lib.hid ht
 have HN := Lib.hid hN
 have HM := Lib.hid hM
 clear hs ho hf hO he hu hno hz hr ht hN hM
 go_enter Tryz.func25, Tryz.ntmps25
 go_wp2_with (with_reducible (show wpList _ _ _ (Oper.mk _ (Op.store 65 _ _) _ _ _ _ :: _) _ _); refine pause ?_)
 unfold Paused
 refine wpList_store_row (by rfl) 65 (.tmp 5) (.tmp 12) (by rfl) (w.heap.size + 5) #[.map (some (w.heap.size + 3)), .map (some (w.heap.size + 4))] (by rfl) (by rfl) 65 #[.map none, .map none] (by have h := Blk.new (((((w.alloc (.cells #[rf, ob] 65)).alloc (.cells cs 32)).alloc (.cells #[.map none, .map none] 65)).alloc (.map #[] 0)).alloc (.map #[] 0)) 65 #[.map none, .map none]; simp only [World.size_alloc] at h; exact h) (by kernel_rfl) (by rfl) (by simp [Value.oneCell']) ?_
 have HS0 := Lib.hid (bhS_start w #[rf, ob] cs)
 generalize (((((((w.alloc (.cells #[rf, ob] 65)).alloc (.cells cs 32)).alloc (.cells #[.map none, .map none] 65)).alloc (.map #[] 0)).alloc (.map #[] 0)).alloc (.cells #[.map none, .map none] 65)).setRow (w.heap.size + 5) #[.map (some (w.heap.size + 3)), .map (some (w.heap.size + 4))]) = w1 at HS0 ⊢
 simp only [Act.put, Nat.add_assoc, Nat.reduceAdd]
 clear mS mO
 have q0 : w1.cell? ⟨w.heap.size + 5, 0, none⟩ = some (.map (some (w.heap.size + 3))) := HS0.out.nxt.cell 0
 have q1 : w1.cell? ⟨w.heap.size, 0, none⟩ = some rf := HS0.out.st.cell 0
 have CS := copyS_any (w.heap.size + 3) 0 N rf (fun _ => none) (fun i => (f i).map idV) w1 HS0.out.m1 (HSS.out.below HS0.out.bel) (fun e => by
  rcases HSS.out with ⟨h, _⟩ | ⟨b, h, hb⟩
  ·rw [h] at e; cases e
  ·rw [h] at e
   injection e with e
   injection e with e
   have := hb.lt
   omega) (agg_idV HF.out) (by have := HN.out; omega)
 go_wp2_with (go_at_call 40; refine pause ?_)
 unfold Paused
 refine CS.mono ?_
 rintro e2 w2 ⟨rfl, ⟨n2, hm2, hn2⟩, hg2⟩
 have HS2 : Hid (BhS w w2 #[rf, ob] cs n2 0 (fun i => (f i).map idV) (fun _ => none)) := Lib.hid (HS0.out.putS (mapS_ext hm2 (fun i => by cases (f i).map idV <;> rfl)) hg2)
 have HN2 : Hid (n2 ≤ N) := Lib.hid (by omega)
 clear CS hm2 hn2 hg2 HS0 q0 q1
 clear w1
 have q0 : w2.cell? ⟨w.heap.size + 5, 1, none⟩ = some (.map (some (w.heap.size + 4))) := HS2.out.nxt.cell 1
 have q1 : w2.cell? ⟨w.heap.size, 1, none⟩ = some ob := HS2.out.st.cell 1
 have CO := copyO_any (w.heap.size + 4) 0 M ob (fun _ => none) (fun x => (O x).map (·.val)) w2 HS2.out.m2 (HSO.out.below HS2.out.bel) (fun e => by
  rcases HSO.out with ⟨h, _⟩ | ⟨b, h, hb⟩
  ·rw [h] at e; cases e
  ·rw [h] at e
   injection e with e
   injection e with e
   have := hb.lt
   omega) (fun x v hv => by
  cases hx : O x with
  | none => rw [hx] at hv; cases hv
  | some p =>
   rw [hx] at hv
   injection hv with hv
   obtain ⟨A, n, c, h⟩ := HO.out x p hx
   exact ⟨A, n, c, hv.symm.trans h⟩) (by have := HM.out; omega)
 go_wp2_with (go_at_call 41; refine pause ?_)
 unfold Paused
 refine CO.mono ?_
 rintro e3 w3 ⟨rfl, ⟨m3, hm3, hn3⟩, hg3⟩
 have HS3 : Hid (BhS w w3 #[rf, ob] cs n2 m3 (fun i => (f i).map idV) (fun x => (O x).map (·.val))) := Lib.hid (HS2.out.putO (mapO_ext hm3 (fun x => by cases (O x).map (·.val) <;> rfl)) hg3)
 have HM3 : Hid (m3 ≤ M) := Lib.hid (by omega)
 clear CO hm3 hn3 hg3 HS2 q0 q1
 clear w2
 have q3 : w3.cell? ⟨w.heap.size + 1, 3, none⟩ = some (.slice U e.ups.length cu) := (HS3.out.ent.cell 3).trans (by rw [HE.out.cells]; rfl)
 obtain ⟨nu, hnu⟩ : ∃ nu, nu = e.ups.length := ⟨_, rfl⟩
 rw [← hnu] at q3
 have HNU := Lib.hid hnu
 clear hnu
 have HUR : Hid (RdK w (.slice U nu cu) nu (cellsU e.ups)) := Lib.hid (by have h := HE.out.ups; rw [← HNU.out] at h; exact h)
 have HFT := Lib.hid HE.out.fit
 go_wp2_with fail
 go_loopw [26] (fun i wr => ∃ k : Nat, k ≤ nu ∧ i = .int .i64 k ∧ ∃ n', Hid (BhS w wr #[rf, ob] cs n' m3 (fun i => (Rp.behindR f (e.ups.take k) i).map idV) (fun x => (O x).map (·.val)) ∧ n' ≤ N + k)) (fun i _ => nu - (intOf i).toNat)
 case atStart => exact ⟨0, Nat.zero_le _, rfl, n2, Lib.hid ⟨HS3.out, HN2.out⟩⟩
 case round =>
  obtain ⟨k, hk, rfl, n', HB⟩ := hrel
  clear HS3 q3 w3
  rcases Nat.lt_or_ge k nu with hlt | hge
  ·have hkl : k < e.ups.length := by rw [← HNU.out]; exact hlt
   have i1 : ((k : Nat) : Int) < nu := by omega
   have i2 : (0 : Int) ≤ ((k : Nat) : Int) := by omega
   have i3 : ((k : Nat) : Int) < 1000 := by have := HU.out; omega
   obtain ⟨b, o, rfl, hbl, hrg⟩ := HUR.out.up HNU.out HFT.out hkl
   have HSN : Hid (∀ i, Rp.behindR f (e.ups.take (k + 1)) i = Rp.putRef (Rp.behindR f (e.ups.take k)) e.ups[k] i) := Lib.hid (fun i => by rw [List.take_succ_eq_append_getElem hkl, behindR_snoc])
   have HFU := Lib.hid (HFT.out _ (List.getElem_mem hkl))
   have HOK := Lib.hid (HR.out _ (List.getElem_mem hkl))
   generalize e.ups[k] = u at hrg HSN HFU HOK
   have HRG : Hid (wr.rangeAt b (o + k * 65) (cellsU1 u)) := Lib.hid (fun j v hj => (HB.out.1.bel.cell (p := ⟨b, o + k * 65 + j, none⟩) hbl).trans (hrg j v hj))
   have HLT : Hid (k + 1 ≤ nu) := Lib.hid hlt
   clear hkl hbl hrg hk hlt
   go_wp2_with (with_reducible (show wpList _ _ _ (Oper.mk _ (Op.load 89 _) _ _ _ _ :: _) _ _); refine pause ?_)
   unfold Paused
   refine wpList_mid_w (by rfl) 89 (.tmp 28) (by rfl) b (o + k * 65) (by rfl) (cellsU1 u) _ HRG.out Tryz.underlying89 (by rfl) (upd_load HFU.out) ?_
   clear HRG
   go_wp2_with (with_reducible (show wpList _ _ _ (Oper.mk _ (Op.store 89 _ _) _ _ _ _ :: _) _ _); refine pause ?_)
   unfold Paused
   change wpList _ _ _ _ _ (wr.alloc (.cells zU 89))
   refine wpList_store_row (by rfl) 89 (.tmp 7) (.tmp 29) (by rfl) wr.heap.size (cellsU1 u).toArray (by rfl) (by rfl) 89 zU (Blk.new wr _ _) (upd_load2 HFU.out) (by rw [zU_size, List.size_toArray, cellsU1_len HFU.out]) (cellsU1_one u) ?_
   have b6 : Below wr.heap.size wr ((wr.alloc (.cells zU 89)).setRow wr.heap.size (cellsU1 u).toArray) := below_row ((Below.refl _ _).alloc (Nat.le_refl _) _) (Nat.le_refl _) _
   have HB6 := Lib.hid (And.intro (HB.out.1.below b6) HB.out.2)
   have HI6 : Hid (Blk ((wr.alloc (.cells zU 89)).setRow wr.heap.size (cellsU1 u).toArray) wr.heap.size 89 (cellsU1 u).toArray) := Lib.hid ((Blk.new wr _ _).row _)
   clear b6 HB
   generalize (wr.alloc (.cells zU 89)).setRow wr.heap.size (cellsU1 u).toArray = w6 at HB6 HI6 ⊢
   generalize wr.heap.size = g6 at HI6 ⊢
   clear wr
   simp only [Act.put]
   go_wp2_with (with_reducible (show wpList _ _ _ (Oper.mk _ (Op.load 41 _) _ _ _ _ :: _) _ _); refine pause ?_)
   unfold Paused
   refine wpList_mid_w (by rfl) 41 (.tmp 30) (by rfl) g6 33 (by rfl) _ _ (up_rng_new HFU.out HI6.out) Tryz.underlying41 (by rfl) (by rw [cellsB_len, HFU.out.2.1]; kernel_rfl) ?_
   go_wp2_with (with_reducible (show wpList _ _ _ (Oper.mk _ (Op.build 41 _) _ _ _ _ :: _) _ _); refine pause ?_)
   unfold Paused
   refine wpList_buildK (by rfl) 41 _ (by rfl) [] (by simp) (u8s Rp.z32) oid_built ?_
   simp only [Act.put]
   have qN : (Op.equalIn 10000 41 (.agg (cellsB u.new).toArray) (.agg (u8s Rp.z32))).run Tryz.prog w6 = .ok (u.new == Rp.z32) w6 := run_equalIn_u8s w6 _ _ 32 Tryz.underlying41 Tryz.underlying5 (fun w => by kernel_rfl) u.new Rp.z32 HFU.out.2.1 Rp.z32_id.1 HFU.out.2.2 Rp.z32_id.2
   have HZQ : Hid ((u.new == Rp.z32) = decide (u.new = Rp.z32)) := Lib.hid (by rw [Bool.eq_iff_iff]; simp)
   generalize (u.new == Rp.z32) = β at qN HZQ
   have q0 : w6.cell? ⟨w.heap.size + 5, 0, none⟩ = some (.map (some (w.heap.size + 3))) := HB6.out.1.nxt.cell 0
   have q1 : w6.cell? ⟨g6, 0, none⟩ = some (.string u.ref) := HI6.out.cell 0
   cases β with
   | true =>
    have HZ : Hid (u.new = Rp.z32) := Lib.hid (by have h := HZQ.out; simpa using h.symm)
    obtain ⟨w7, hrun, hm7, hg7⟩ := HB6.out.1.m1.drop Tryz.underlying62 HOK.out 0
    have HB7 := Lib.hid (And.intro (HB6.out.1.putS (F' := fun i => (Rp.behindR f (e.ups.take (k + 1)) i).map idV) (mapS_ext hm7 (fun i => by
     rw [HSN.out i]
     unfold updS Rp.putRef
     split
     ·rw [if_pos HZ.out]; rfl
     ·rfl)) hg7) (show n' ≤ N + (k + 1) by have := HB6.out.2; omega))
    clear hm7 hg7 HB6 HI6
    go_wp2
    go_roundw
    case rel => exact ⟨k + 1, HLT.out, by go_num, _, HB7⟩
    case measure => have h5 := HLT.out; simp [intOf]; omega
   | false =>
    have HZ : Hid (u.new ≠ Rp.z32) := Lib.hid (by have h := HZQ.out; simpa using h.symm)
    obtain ⟨w7, hrun, hm7, hg7⟩ := HB6.out.1.m1.store Tryz.underlying62 (by have := HB6.out.2; have := HN.out; have := HU.out; have := HNU.out; have := HLT.out; unfold maxLen; omega) HOK.out (.agg (cellsB u.new).toArray)
    have HB7 := Lib.hid (And.intro (HB6.out.1.putS (F' := fun i => (Rp.behindR f (e.ups.take (k + 1)) i).map idV) (mapS_ext hm7 (fun i => by
     rw [HSN.out i]
     unfold updS Rp.putRef
     split
     ·rw [if_neg HZ.out]; rfl
     ·rfl)) hg7) (show n' + 1 ≤ N + (k + 1) by have := HB6.out.2; omega))
    clear hm7 hg7 HB6
    go_wp2_with (with_reducible (show wpList _ _ _ (Oper.mk _ (Op.load 41 _) _ _ _ _ :: _) _ _); refine pause ?_)
    unfold Paused
    refine wpList_mid_w (by rfl) 41 (.tmp 42) (by rfl) g6 33 (by rfl) _ _ (up_rng_new HFU.out HI6.out) Tryz.underlying41 (by rfl) (by rw [cellsB_len, HFU.out.2.1]; kernel_rfl) ?_
    clear HI6
    go_wp2
    go_roundw
    case rel => exact ⟨k + 1, HLT.out, by go_num, _, HB7⟩
    case measure => have h5 := HLT.out; simp [intOf]; omega
  ·obtain rfl : k = nu := by omega
   have i1 : ¬ ((k : Nat) : Int) < k := by omega
   have HB3 : Hid (BhS w wr #[rf, ob] cs n' m3 (fun i => (Rp.behindR f e.ups i).map idV) (fun x => (O x).map (·.val)) ∧ n' ≤ N + k) := Lib.hid (by have h := HB.out; rw [HNU.out, List.take_length] at h; rw [HNU.out]; exact h)
   clear HB hk hge
   obtain ⟨w9, hw9⟩ : ∃ w9, w9 = wr := ⟨_, rfl⟩
   subst hw9
   obtain ⟨no, hno⟩ : ∃ no, no = e.objs.length := ⟨_, rfl⟩
   have q4 : w9.cell? ⟨w.heap.size + 1, 4, none⟩ = some (.slice OO no co) := (HB3.out.1.ent.cell 4).trans (by rw [HE.out.cells, hno]; rfl)
   have HNB := Lib.hid hno
   have HBT : Hid (BtT w OO no ts) := Lib.hid (by rw [hno]; exact HE.out.objs)
   have HTX := Lib.hid HE.out.txt
   clear hno
   go_wp2_with fail
   go_loopw [48] (fun i ws => ∃ j : Nat, j ≤ no ∧ i = .int .i64 j ∧ ∃ m', Hid (BhS w ws #[rf, ob] cs n' m' (fun i => (Rp.behindR f e.ups i).map idV) (fun x => (behindT O (ts.take j) x).map (·.val)) ∧ m' ≤ M + j)) (fun i _ => no - (intOf i).toNat)
   case atStart => exact ⟨0, Nat.zero_le _, rfl, m3, Lib.hid ⟨HB3.out.1, HM3.out⟩⟩
   case round =>
    obtain ⟨j, hj, rfl, m', HC⟩ := hrel
    have HN3 := Lib.hid HB3.out.2
    clear q4 HB3 w9
    rcases Nat.lt_or_ge j no with hlt | hge
    ·have hjl : j < ts.length := by rw [← HBT.out.len]; exact hlt
     have j1 : ((j : Nat) : Int) < no := by omega
     have j2 : (0 : Int) ≤ ((j : Nat) : Int) := by omega
     have j3 : ((j : Nat) : Int) < 1000 := by have := HNO.out; have := HNB.out; omega
     obtain ⟨b, o, rfl, hbl, hrow⟩ := HBT.out.row (by omega)
     have hcl := hrow j ts[j] (List.getElem?_eq_getElem hjl)
     have hrd := HBT.out.rd ts[j] (List.getElem_mem hjl)
     have hlen : ts[j].text.length ≤ 100000 := HZ.out _ (by rw [← HTX.out]; exact List.mem_map.2 ⟨ts[j], List.getElem_mem hjl, rfl⟩)
     have HSN : Hid (∀ x, behindT O (ts.take (j + 1)) x = putT (behindT O (ts.take j)) ts[j] x) := Lib.hid (fun x => by rw [List.take_succ_eq_append_getElem hjl, behindT_snoc])
     generalize ts[j] = tx at hcl hrd hlen HSN
     obtain ⟨A1, c1, hval⟩ : ∃ A1 c1, tx.val = .slice A1 tx.text.length c1 := by obtain ⟨⟨A1, c1, h, _⟩, _⟩ := hrd; exact ⟨A1, c1, h⟩
     have pc : wr.cell? ⟨b, o + j, none⟩ = some (.slice A1 tx.text.length c1) := by
      rw [← hval]
      exact (HC.out.1.bel.cell (p := ⟨b, o + j, none⟩) hbl).trans hcl
     have CID : ∀ w', Below wr.heap.size wr w' → Calls Tryz.prog 15 #[.slice A1 tx.text.length c1] w' _ := fun w' hb => oid_any tx.text (.slice A1 tx.text.length c1) w' (by rw [← hval]; exact hrd.1.below (below_next HC.out.1.bel hb) (Nat.le_refl _)) hrd.2 (HT.out.below (below_next HC.out.1.bel hb) (Nat.le_refl _)) (by omega)
     have HVAL := Lib.hid hval
     have HLT : Hid (j + 1 ≤ no) := Lib.hid hlt
     have HSI := Lib.hid (cl_sum_id tx.text)
     obtain ⟨su, hsu⟩ : ∃ su, su = Sha.sum tx.text := ⟨_, rfl⟩
     have HSU := Lib.hid hsu
     rw [← hsu] at CID HSI
     obtain ⟨tl, htl⟩ : ∃ tl, tl = tx.text.length := ⟨_, rfl⟩
     rw [← htl] at CID HVAL pc
     have CI2 := CID wr.drew (below_drewN (Below.refl _ wr) 1)
     clear hjl hbl hrow hcl hrd hlen hval hj hlt hsu htl CID
     go_wp2_with fail
     have HSX : Hid (wr.drew.cell? ⟨w.heap.size + 5, 1, none⟩ = some (.map (some (w.heap.size + 4)))) := Lib.hid (HC.out.1.nxt.cell 1)
     have HBD := Lib.hid (below_drewN (Below.refl wr.heap.size wr) 1)
     refine wp_region_upto (S := fun w' => w'.cell? ⟨w.heap.size + 5, 1, none⟩ = some (.map (some (w.heap.size + 4)))) (b := 5) (by kernel_rfl) ?_
     change Upto _ _ _ _ _ _ _ _ _ wr.drew
     refine Upto.takeY (i := 0) (v := ?_) rfl (by kernel_rfl) (by kernel_rfl) (by kernel_rfl) (by kernel_rfl) (fun _ _ _ h => h) (Or.inl ⟨by rfl, ?_⟩) (fun _ => HSX.out) ?_
     rotate_left
     ·intro w' _; go_simp; with_reducible rfl
     try simp only [Act.put, List.getElem_toArray, List.getElem_cons_zero, List.setIfInBounds_toArray, List.set_cons_zero, List.set_cons_succ]
     refine Upto.take (i := 1) (v := ?_) rfl (by kernel_rfl) (by kernel_rfl) (by kernel_rfl) (by kernel_rfl) (fun _ _ _ h => h) (Or.inl ⟨by rfl, ?_⟩) HSX.out ?_
     rotate_left
     ·intro w' hS; have h0 := hS; go_simp; with_reducible rfl
     try simp only [Act.put, List.getElem_toArray, List.getElem_cons_zero, List.getElem_cons_succ, List.setIfInBounds_toArray, List.set_cons_zero, List.set_cons_succ]
     refine Upto.takeY (i := 2) (v := ?_) rfl (by kernel_rfl) (by kernel_rfl) (by kernel_rfl) (by kernel_rfl) (fun _ _ _ h => h) (Or.inl ⟨by rfl, ?_⟩) (fun _ => HSX.out) ?_
     rotate_left
     ·intro w' _; go_simp; with_reducible rfl
     try simp only [Act.put, List.getElem_toArray, List.getElem_cons_zero, List.getElem_cons_succ, List.setIfInBounds_toArray, List.set_cons_zero, List.set_cons_succ]
     refine Upto.takeY (i := 4) (v := ?_) rfl (by kernel_rfl) (by kernel_rfl) (by kernel_rfl) (by kernel_rfl) (fun _ _ _ h => h) (Or.inl ⟨by rfl, ?_⟩) (fun _ => HSX.out) ?_
     rotate_left
     ·intro w' _; go_simp; with_reducible rfl
     try simp only [Act.put, List.getElem_toArray, List.getElem_cons_zero, List.getElem_cons_succ, List.setIfInBounds_toArray, List.set_cons_zero, List.set_cons_succ]
     refine Upto.one (i := 3) (by kernel_rfl) rfl (by rfl) (fun K hK => ?_)
     go_simp
     refine CI2.mono ?_
     rintro e7 w7 ⟨rfl, hb7⟩
     have HC7 := Lib.hid (And.intro (HC.out.1.below (below_next HBD.out hb7)) HC.out.2)
     clear hb7 HSX HBD CI2 pc HC
     have HSX : Hid (w7.cell? ⟨w.heap.size + 5, 1, none⟩ = some (.map (some (w.heap.size + 4)))) := Lib.hid (HC7.out.1.nxt.cell 1)
     refine hK _ _ (fun _ _ => HSX.out) ?_
     clear hK
     try simp only [Act.put, List.getElem_toArray, List.getElem_cons_zero, List.getElem_cons_succ, List.setIfInBounds_toArray, List.set_cons_zero, List.set_cons_succ]
     obtain ⟨w8, hrun, hm8, hg8⟩ := HC7.out.1.m2.store Tryz.underlying63 (by have := HC7.out.2; have := HM.out; have := HNO.out; have := HNB.out; have := HLT.out; unfold maxLen; omega) HSI.out (.slice A1 tl c1)
     have HC8 := Lib.hid (And.intro (HC7.out.1.putO (G' := fun x => (behindT O (ts.take (j + 1)) x).map (·.val)) (mapO_ext hm8 (fun x => by
      rw [HSN.out x]
      unfold updO putT
      rw [← HSU.out]
      split
      ·show some _ = some tx.val; rw [HVAL.out]
      ·rfl)) hg8) (show m' + 1 ≤ M + (j + 1) by have := HC7.out.2; omega))
     clear hm8 hg8 HC7 HSX
     refine Upto.one (i := 5) (by kernel_rfl) rfl (by rfl) (fun K hK => ?_)
     go_simp
     refine hK _ _ (fun h => absurd rfl h) ?_
     try simp only [Act.put, List.getElem_toArray, List.getElem_cons_zero, List.getElem_cons_succ, List.setIfInBounds_toArray, List.set_cons_zero, List.set_cons_succ]
     refine Upto.done (by kernel_rfl) ?_ _
     clear hrun hK
     go_wp2
     go_roundw
     case rel => exact ⟨j + 1, HLT.out, by go_num, _, HC8⟩
     case measure => have h5 := HLT.out; simp [intOf]; omega
    ·obtain rfl : j = no := by omega
     have j1 : ¬ ((j : Nat) : Int) < j := by omega
     have HC3 : Hid (BhS w wr #[rf, ob] cs n' m' (fun i => (Rp.behindR f e.ups i).map idV) (fun x => (behindT O ts x).map (·.val)) ∧ m' ≤ M + j) := Lib.hid (by have h := HC.out; rw [HBT.out.len, List.take_length] at h; rw [HBT.out.len]; exact h)
     clear HC hj hge
     go_wp2_with (with_reducible (show wpList _ _ _ (Oper.mk _ (Op.load 65 _) _ _ _ _ :: _) _ _); refine pause ?_)
     unfold Paused
     refine wpList_row_w (by rfl) 65 (.tmp 5) (by rfl) (w.heap.size + 5) (by rfl) 65 #[.map (some (w.heap.size + 3)), .map (some (w.heap.size + 4))] _ HC3.out.1.nxt Tryz.underlying65 (by rfl) (by kernel_rfl) ?_
     go_wp2_with (with_reducible (show wpList _ _ _ (Oper.mk _ (Op.store 65 _ _) _ _ _ _ :: _) _ _); refine pause ?_)
     unfold Paused
     refine wpList_store_row (by rfl) 65 (.tmp 4) (.tmp 58) (by rfl) (w.heap.size + 2) #[.map (some (w.heap.size + 3)), .map (some (w.heap.size + 4))] (by rfl) (by rfl) 65 #[.map none, .map none] HC3.out.1.res (by kernel_rfl) (by rfl) (by simp [Value.oneCell']) ?_
     have hg : wr.grownBy (wr.setRow (w.heap.size + 2) #[.map (some (w.heap.size + 3)), .map (some (w.heap.size + 4))]) (some (w.heap.size + 2)) := only_setRow (World.grownBy.refl wr _) (Or.inl rfl) _
     have HFIN : Hid (BhPost w f O e ts N M (.returned (.agg #[.map (some (w.heap.size + 3)), .map (some (w.heap.size + 4))])) (wr.setRow (w.heap.size + 2) #[.map (some (w.heap.size + 3)), .map (some (w.heap.size + 4))])) := Lib.hid ⟨_, _, n', m', rfl, HC3.out.1.m1.kept hg (by simp), HC3.out.1.m2.kept hg (by simp), by have := HN3.out; have := HNU.out; omega, by have := HC3.out.2; have := HNB.out; omega, below_of_only HC3.out.1.bel hg (by omega)⟩
     have HRS := Lib.hid (HC3.out.1.res.row #[.map (some (w.heap.size + 3)), .map (some (w.heap.size + 4))])
     clear hg HC3
     simp only [Act.put]
     go_wp2
     refine bodyPost_ret (v := .agg #[.map (some (w.heap.size + 3)), .map (some (w.heap.size + 4))]) (results_cell_row rfl _ _ (w.heap.size + 2) 65 _ (0, 0) _ rfl HRS.out Tryz.underlying65 rfl (by kernel_rfl)) rfl ?_
     exact HFIN.out
end Go.Proofs.YtgcgomdhdgjpdaaGreatDoor
