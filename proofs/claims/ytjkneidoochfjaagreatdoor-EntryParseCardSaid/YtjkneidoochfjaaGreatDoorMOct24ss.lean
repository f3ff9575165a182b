/- The document's Rest, its answers in the memory that it was handed. -/
import Derived.Test.YtjkneidoochfjaaGreatDoorMOct20s
namespace Go.Proofs.YtjkneidoochfjaaGreatDoor
open Go Go.RowKit
/-- What the document's Rest answers. -/
def RRestPost1 (s : ByteArray) (xs : List Nat) (w0 w : World) (e : Ending) (w' : World) : Prop :=
  Below w.heap.size w w' ∧
  (Oc.known s.data.toList = false → e = .returned (.tuple #[.slice none 0 0, .slice none 0 0, .int .i64 7])) ∧
  (Oc.known s.data.toList = true → ∀ c, Oc.reads (shN s) xs = .bad c → e = .returned (.tuple #[.slice none 0 0, .slice none 0 0, .int .i64 (c : Int)])) ∧
  (Oc.known s.data.toList = true → ∀ l p, Oc.reads (shN s) xs = .ok l p → ∃ A1 b c1 fs A2 c2, e = .returned (.tuple #[.slice A1 fs.length c1, .slice A2 (xs.drop p).length c2, .int .i64 0]) ∧ (A1 = some ⟨b, 0, none⟩ ∧ w.heap.size ≤ b) ∧ FRow w' b 0 fs ∧ fs.map Oc.says = l.map Oc.lays ∧ Rd w0 (.slice A2 (xs.drop p).length c2) (xs.drop p) ∧ ∀ f ∈ fs, Rd w0 (.slice f.A f.l f.c) f.bs)
/-- what the loop keeps -/
def RRel1 (s : ByteArray) (xs : List Nat) (w0 w wr : World) (vb v : Value) (k : Nat) : Prop :=
  ∃ l p fs, Oc.reads ((shN s).take k) xs = .ok l p ∧ fs.map Oc.says = l.map Oc.lays ∧ Rd w0 vb (xs.drop p) ∧ OwnF w wr v k (cellsF fs) ∧ ∀ f ∈ fs, Rd w0 (.slice f.A f.l f.c) f.bs ∧ f.bs.length = f.l
theorem rrest_bad1 {s : ByteArray} {xs : List Nat} {w0 w w' : World} {c : Nat} (hk : Oc.known s.data.toList = true) (hr : Oc.reads (shN s) xs = .bad c) (hb : Below w.heap.size w w') {e : Ending} (he : e = .returned (.tuple #[.slice none 0 0, .slice none 0 0, .int .i64 (c : Int)])) : RRestPost1 s xs w0 w e w' :=
  ⟨hb, fun h => (by rw [hk] at h; cases h), fun _ c' h => (by rw [hr] at h; injection h with h; subst h; exact he), fun _ l p h => (by rw [hr] at h; cases h)⟩
theorem rrest_done1 {s : ByteArray} {xs : List Nat} {w0 w wr : World} {vb v : Value} (hw : Below w0.heap.size w0 w) (hk : Oc.known s.data.toList = true) (h : RRel1 s xs w0 w wr vb v s.size) : RRestPost1 s xs w0 w (.returned (.tuple #[v, vb, .int .i64 0])) wr := by
  obtain ⟨l, p, fs, h1, h2, h3, h4, h5⟩ := h
  rw [List.take_of_length_le (by rw [shN_len]; exact Nat.le_refl _)] at h1
  refine ⟨h4.bel, fun h => (by rw [hk] at h; cases h), fun _ c' h => (by rw [h1] at h; cases h), fun _ l' p' h => ?_⟩
  rw [h1] at h
  injection h with e1 e2
  subst e1 e2
  have hl : fs.length = s.size := by rw [says_len h2, Oc.reads_len h1, shN_len]
  rw [← hl] at h4
  obtain ⟨g, c, rfl, hrow⟩ := h4.row (fun f hf => ⟨(h5 f hf).1.below hw (Nat.le_refl _), (h5 f hf).2⟩)
  have h3b := h3
  obtain ⟨A2, c2, rfl, _, _⟩ := h3
  exact ⟨_, g, c, fs, A2, c2, rfl, ⟨rfl, (h4.own.lt g rfl).1⟩, hrow, h2, h3b, fun f hf => (h5 f hf).1⟩
theorem rrel_next1 {s : ByteArray} {xs : List Nat} {w0 w w' : World} {vb v2 : Value} {k n m p : Nat} {l : List (Nat × List Nat)} {x : List Nat} {fs : List Fld} {f : Fld}
    (h1 : Oc.reads ((shN s).take (k + 1)) xs = .ok (l ++ [(n, x)]) (p + m)) (h2 : fs.map Oc.says = l.map Oc.lays) (h3 : Rd w0 vb ((xs.drop p).drop m)) (h4 : OwnF w w' v2 (k + 1) (cellsF (fs ++ [f]))) (h5 : ∀ f ∈ fs, Rd w0 (.slice f.A f.l f.c) f.bs ∧ f.bs.length = f.l)
    (g1 : f.n = (n : Int)) (g2 : f.bs = x) (g3 : Rd w0 (.slice f.A f.l f.c) f.bs ∧ f.bs.length = f.l) : RRel1 s xs w0 w w' vb v2 (k + 1) := by
  refine ⟨_, _, fs ++ [f], h1, says_snoc h2 g1 g2, by rw [List.drop_drop] at h3; exact h3, h4, fun y hy => ?_⟩
  rcases List.mem_append.1 hy with hy | hy
  · exact h5 y hy
  · rw [List.mem_singleton.1 hy]; exact g3
end Go.Proofs.YtjkneidoochfjaaGreatDoor
/- The walk of the document's own reading (cartageref02.Rest), its answers in the memory that it was handed. -/
namespace Go.Proofs.YtjkneidoochfjaaGreatDoor
open Go Go.RowKit
set_option maxRecDepth 100000 in
set_option maxHeartbeats 1000000 in
theorem rrest1_any (s : ByteArray) (xs : List Nat) (A : Option Addr) (n c : Nat) (w0 w : World) (hw : Below w0.heap.size w0 w) (hs : s.size ≤ 1000) (hv : Rd w0 (.slice A n c) xs) (hb : Oc.bytes xs) (hx : xs.length ≤ 1099511627776) :
    Calls Tryz.prog 37 #[.string s, .slice A n c] w (RRestPost1 s xs w0 w) := by
  have C1 := rknown_any s
  have HW0 := Lib.hid hw
  clear hw
  obtain ⟨kn, hkn⟩ : ∃ kn, kn = Oc.known s.data.toList := ⟨_, rfl⟩
  rw [← hkn] at C1
  have HKN := Lib.hid hkn
  clear hkn
  cases kn
  · have H : Hid (RRestPost1 s xs w0 w (.returned (.tuple #[.slice none 0 0, .slice none 0 0, .int .i64 7])) w) := Lib.hid ⟨Below.refl _ _, fun _ => rfl, fun h => (by rw [← HKN.out] at h; cases h), fun h => (by rw [← HKN.out] at h; cases h)⟩
    clear hv hb
    go_enter Tryz.func37, Tryz.ntmps37
    go_wp2_with (go_at_call 62; refine (C1 _ (by omega)).mono ?_; rintro e w' ⟨rfl, rfl⟩)
    go_ret3
    exact H.out
  · have H0 : Hid (RRel1 s xs w0 w (w.alloc (.cells #[] 77)) (.slice A n c) (.slice (some ⟨w.heap.size, 0, none⟩) 0 0) 0) := Lib.hid ⟨[], 0, [], rfl, rfl, hv, OwnF.lit w, fun f hf => by cases hf⟩
    have HBY := Lib.hid hb
    have hvl : xs.length = n := by obtain ⟨_, _, e, _⟩ := hv; injection e with _ e _; exact e.symm
    obtain ⟨i0, hi0, hiz, his, hib⟩ := info_parts fld_info
    clear hv hb
    go_enter Tryz.func37, Tryz.ntmps37
    go_wp2_with (go_at_call 62; refine (C1 _ (by omega)).mono ?_; rintro e w' ⟨rfl, rfl⟩)
    go_loopw [1, 7, 8] (fun vb v j wr => ∃ k : Nat, k ≤ s.size ∧ j = .int .i64 k ∧ Hid (RRel1 s xs w0 w wr vb v k)) (fun _ _ j _ => s.size - (intOf j).toNat)
    case atStart => exact ⟨0, Nat.zero_le _, rfl, H0⟩
    case round =>
      obtain ⟨k, hk, rfl, HR⟩ := hrel
      by_cases hlt : k < s.size
      · obtain ⟨l, p, fs, h1, h2, h3, h4, h5⟩ := HR.out
        have hks : k < (shN s).length := by rw [shN_len]; exact hlt
        have hL : 0 ≤ Oc.size (s[k]'hlt).toNat := of_decide_eq_true (Oc.known_at HKN.out.symm hlt)
        have hnext := fun (n m : Nat) (x : List Nat) (hst : Oc.step (s[k]'hlt).toNat (xs.drop p) = .ok n x m) => Oc.reads_ok_next h1 hks (shN_get hlt) hst
        have hbad := fun (e : Nat) (hst : Oc.step (s[k]'hlt).toNat (xs.drop p) = .bad e) => Oc.reads_bad_next h1 hks (shN_get hlt) hst
        have hys := Oc.bytes_drop HBY.out p
        have h3w := (h3.below HW0.out (Nat.le_refl _)).below h4.bel (Nat.le_refl _)
        have hyl : (xs.drop p).length ≤ 1099511627776 := by rw [List.length_drop]; omega
        have HRN := fun (n m : Nat) (x : List Nat) (f : Fld) (vb v2 : Value) (w' : World) (h : Oc.reads ((shN s).take (k + 1)) xs = .ok (l ++ [(n, x)]) (p + m)) (g3 : Rd w0 vb ((xs.drop p).drop m)) (g4 : OwnF w w' v2 (k + 1) (cellsF (fs ++ [f]))) (g1 : f.n = (n : Int)) (g2 : f.bs = x) (g5 : Rd w0 (.slice f.A f.l f.c) f.bs ∧ f.bs.length = f.l) => rrel_next1 h h2 g3 g4 h5 g1 g2 g5
        obtain ⟨ys, hyy⟩ : ∃ ys, ys = xs.drop p := ⟨_, rfl⟩
        rw [← hyy] at hnext hbad hys h3 h3w hyl HRN
        have hR3 := h3
        obtain ⟨Ab, cb, rfl, hcb, hAb⟩ := h3w
        have hA0 : ∀ b o, Ab = some ⟨b, o, none⟩ → 0 < ys.length → ∀ i, i < ys.length → wr.cell? ⟨b, o + i, none⟩ = some (.int .u8 ((ys.getD i 0 : Nat) : Int)) := fun b o e h0 i hi => by
          obtain ⟨b', o', e', _, hx'⟩ := hAb h0
          rw [e] at e'
          injection e' with e'
          injection e' with e1 e2
          subst e1 e2
          exact hx' i hi
        have hAs : 0 < ys.length → ∃ b o, Ab = some ⟨b, o, none⟩ := fun h0 => by obtain ⟨b, o, e, _⟩ := hAb h0; exact ⟨b, o, e⟩
        have HR3 := Lib.hid hR3
        have HOWN := Lib.hid h4
        have HNX := Lib.hid hnext
        have HBD := Lib.hid hbad
        have HRNX := Lib.hid HRN
        have hbw := Lib.hid h4.bel
        have HYS := Lib.hid hys
        clear h1 hnext hbad h2 hyy h3 h4 h5 hAb hR3 HRN hks HR
        have iq0 : ((k : Nat) : Int) < s.size := by omega
        have iq1 : (0 : Int) ≤ ((k : Nat) : Int) := by omega
        by_cases c1 : (s[k]'hlt).toNat = 111
        · have bq1 : ((s[k]'hlt).toNat : Int) = 111 := by omega
          have CS : ∀ w, Calls Tryz.prog 63 #[.int .u8 111] w fun e w' => e = .returned (.int .i64 0) ∧ w = w' := fun w => rsize_any 111 w
          rw [c1] at HNX HBD
          by_cases hn : ys.length < 32
          · have i5 : (ys.length : Int) < 32 := by omega
            have HB := Lib.hid (HBD.out 2 (by rw [step_oid, if_pos hn]))
            clear hi0 hiz his hib HNX HBD HRNX hA0 hAs
            go_wp2_with (go_at_call 63; refine (CS _).mono ?_; rintro e w' ⟨rfl, rfl⟩)
            go_ret3
            exact rrest_bad1 HKN.out.symm HB.out hbw.out rfl
          · have i5 : ¬ (ys.length : Int) < 32 := by omega
            have hNX := HNX.out 0 32 (ys.take 32) (by rw [step_oid, if_neg hn])
            have HCUT := Lib.hid (HR3.out.cut (k := 32) (by omega))
            have HFR : Hid (Rd w0 (.slice Ab 32 cb) (ys.take 32) ∧ (ys.take 32).length = 32) := Lib.hid ⟨HR3.out.cutHi (by omega), by rw [List.length_take]; omega⟩
            have q1 : ∀ w', (Instr.slice 32 (.slice Ab ys.length cb) none (some (.int .i64 32)) none).run Tryz.prog w' = .ok (.slice Ab 32 cb) w' := fun w' => run_sliceHi Tryz.underlying32 (by kernel_rfl) Ab ys.length cb 32 (by omega) rfl w'
            have q2 : ∀ w', (Instr.slice 32 (.slice Ab ys.length cb) (some (.int .i64 32)) none none).run Tryz.prog w' = .ok (.slice (if cb = 32 then Ab else Ab.map (·.add 32)) (ys.length - 32) (cb - 32)) w' := fun w' => run_sliceLoS Tryz.underlying32 (by kernel_rfl) Ab ys.length cb 32 (by omega) rfl w'
            generalize (if cb = 32 then Ab else Ab.map (·.add 32)) = A2 at q2 HCUT
            clear HNX
            have HNX := Lib.hid hNX
            have HOA : Hid (OwnF w ((wr.alloc (.cells #[.int .i64 0, .slice Ab 32 cb] 77)).alloc (.cells #[.int .i64 0, .slice Ab 32 cb] 77)) u7 k (cellsF fs)) := Lib.hid ((HOWN.out.step ((Below.refl _ _).alloc (Nat.le_refl _) _)).step ((Below.refl _ _).alloc (Nat.le_refl _) _))
            have HY : Hid (Blk ((wr.alloc (.cells #[.int .i64 0, .slice Ab 32 cb] 77)).alloc (.cells #[.int .i64 0, .slice Ab 32 cb] 77)) (wr.heap.size + 1) 77 #[.int .i64 0, .slice Ab 32 cb]) := Lib.hid (by have h := Blk.new (wr.alloc (.cells #[.int .i64 0, .slice Ab 32 cb] 77)) 77 #[.int .i64 0, .slice Ab 32 cb]; rwa [show (wr.alloc (.cells #[.int .i64 0, .slice Ab 32 cb] 77)).heap.size = wr.heap.size + 1 by simp] at h)
            clear HBD hA0 hAs hNX
            go_wp2_with (first | (go_at_call 63; refine (CS _).mono ?_; rintro e w' ⟨rfl, rfl⟩) | (refine wpList_append_own _ rfl (.tmp 88) (.tmp 90) 78 rfl w.heap.size 77 i0 _ 2 32 Tryz.underlying78 hi0 hiz his hib rfl (by decide) _ k _ rfl HOA.out.own ⟨wr.heap.size + 1, 0, none⟩ 1 1 [.int .i64 0, .slice Ab 32 cb] rfl rfl (fun j u hj => by rw [Addr.add_mid, Nat.zero_add]; exact (HY.out.cell j).trans (by simpa using hj)) (fun u hu => by simp at hu; rcases hu with rfl | rfl <;> rfl) (by unfold maxLen; omega) (by omega) HOA.out.bel.size ?_; intro v' w2 hown hgrow _; have HN : Hid (RRel1 s xs w0 w w2 (.slice A2 (ys.length - 32) (cb - 32)) v' (k + 1)) := Lib.hid (HRNX.out 0 32 (ys.take 32) ⟨0, Ab, 32, cb, ys.take 32⟩ _ v' w2 HNX.out HCUT.out (HOA.out.app hown hgrow) rfl rfl HFR.out); clear hown hgrow))
            go_roundw
            case rel => exact ⟨k + 1, by omega, by go_num, HN⟩
            case measure => simp [intOf]; omega
        · by_cases c2 : (s[k]'hlt).toNat = 116
          · have bq1 : (((s[k]'hlt).toNat : Int) == 111) = false := by simp; omega
            have bq2 : ((s[k]'hlt).toNat : Int) = 116 := by omega
            have CS : ∀ w, Calls Tryz.prog 63 #[.int .u8 116] w fun e w' => e = .returned (.int .i64 0) ∧ w = w' := fun w => rsize_any 116 w
            rw [c2] at HNX HBD
            by_cases hn : ys.length < 2
            · have i5 : (ys.length : Int) < 2 := by omega
              have HB := Lib.hid (HBD.out 2 (by rw [step_text, if_pos hn]))
              clear hi0 hiz his hib HNX HBD HRNX hA0 hAs
              go_wp2_with (go_at_call 63; refine (CS _).mono ?_; rintro e w' ⟨rfl, rfl⟩)
              go_ret3
              exact rrest_bad1 HKN.out.symm HB.out hbw.out rfl
            · have i5 : ¬ (ys.length : Int) < 2 := by omega
              obtain ⟨b, o, rfl⟩ := hAs (by omega)
              have p0 : wr.cell? ⟨b, o, none⟩ = some (.int .u8 ((ys.getD 0 0 : Nat) : Int)) := hA0 b o rfl (by omega) 0 (by omega)
              have p1 : wr.cell? ⟨b, o + 1, none⟩ = some (.int .u8 ((ys.getD 1 0 : Nat) : Int)) := hA0 b o rfl (by omega) 1 (by omega)
              have hvt := Oc.val_two (l := ys) (by omega)
              have hvl := Oc.val_lt 2 (ys.take 2) (Oc.bytes_take hys 2) (by rw [List.length_take]; omega)
              have hstep := step_text ys
              rw [if_neg hn] at hstep
              generalize Oc.val (ys.take 2) = V at hvt hvl hstep
              generalize ys.getD 0 0 = x at p0 hvt
              generalize ys.getD 1 0 = y at p1 hvt
              have hVi : (x : Int) * 256 + (y : Int) = (V : Int) := by omega
              have W1 : IntKind.i64.wrap ((x : Int) * 256) = (x : Int) * 256 := IntWalk.i64_in _ (by omega)
              have W2 : IntKind.i64.wrap (V : Int) = (V : Int) := IntWalk.i64_in _ (by omega)
              have HC2 := Lib.hid (HR3.out.cut (k := 2) (by omega))
              have q1 : ∀ w', (Instr.slice 32 (.slice (some ⟨b, o, none⟩) ys.length cb) (some (.int .i64 2)) none none).run Tryz.prog w' = .ok (.slice (if cb = 2 then some ⟨b, o, none⟩ else (some (⟨b, o, none⟩ : Addr)).map (·.add 2)) (ys.length - 2) (cb - 2)) w' := fun w' => run_sliceLoS Tryz.underlying32 (by kernel_rfl) _ ys.length cb 2 (by omega) rfl w'
              obtain ⟨n2, hn2⟩ : ∃ n2, n2 = ys.length - 2 := ⟨_, rfl⟩
              obtain ⟨d2, hd2⟩ : ∃ d2, d2 = cb - 2 := ⟨_, rfl⟩
              rw [← hn2, ← hd2] at q1 HC2
              generalize (if cb = 2 then some (⟨b, o, none⟩ : Addr) else (some (⟨b, o, none⟩ : Addr)).map (·.add 2)) = Ab2 at q1 HC2
              clear hvt hA0 hAs
              by_cases hn2' : n2 < V
              · have i6 : (n2 : Int) < (V : Int) := by omega
                have HB := Lib.hid (HBD.out 2 (by rw [hstep, if_pos (by omega)]))
                clear hi0 hiz his hib HNX HBD HRNX hstep hn2 hd2
                go_wp2_with (go_at_call 63; refine (CS _).mono ?_; rintro e w' ⟨rfl, rfl⟩)
                go_quiet (fail)
                go_wp2
                go_ret3
                exact rrest_bad1 HKN.out.symm HB.out (below_drewN hbw.out nq) rfl
              · have i6 : ¬ (n2 : Int) < (V : Int) := by omega
                have hNX := HNX.out 0 (2 + V) ((ys.drop 2).take V) (by rw [hstep, if_neg (by omega)])
                have hd2l : (ys.drop 2).length = n2 := by rw [List.length_drop]; omega
                have HCUT : Hid (Rd w0 (.slice (if d2 = V then Ab2 else Ab2.map (·.add V)) (n2 - V) (d2 - V)) (ys.drop (2 + V))) := Lib.hid (by have h := HC2.out.cut (k := V) (by omega); rwa [List.drop_drop] at h)
                have HFR : Hid (Rd w0 (.slice Ab2 V d2) ((ys.drop 2).take V) ∧ ((ys.drop 2).take V).length = V) := Lib.hid ⟨HC2.out.cutHi (by omega), by rw [List.length_take]; omega⟩
                have hdc : n2 ≤ d2 := by obtain ⟨_, _, e, hle, _⟩ := HC2.out; injection e with _ e1 e2; omega
                have q2 : ∀ w', (Instr.slice 32 (.slice Ab2 n2 d2) none (some (.int .i64 (V : Int))) none).run Tryz.prog w' = .ok (.slice Ab2 V d2) w' := fun w' => run_sliceHi Tryz.underlying32 (by kernel_rfl) Ab2 n2 d2 V (by omega) rfl w'
                have q3 : ∀ w', (Instr.slice 32 (.slice Ab2 n2 d2) (some (.int .i64 (V : Int))) none none).run Tryz.prog w' = .ok (.slice (if d2 = V then Ab2 else Ab2.map (·.add V)) (n2 - V) (d2 - V)) w' := fun w' => run_sliceLoS Tryz.underlying32 (by kernel_rfl) Ab2 n2 d2 V (by omega) rfl w'
                generalize (if d2 = V then Ab2 else Ab2.map (·.add V)) = A3 at q3 HCUT
                clear HNX
                have HNX := Lib.hid hNX
                clear HBD hNX hstep hn2 hd2
                go_wp2_with (go_at_call 63; refine (CS _).mono ?_; rintro e w' ⟨rfl, rfl⟩)
                go_quiet (fail)
                have HOQ := Lib.hid (HOWN.out.step (below_drewN (Below.refl wr.heap.size wr) nq))
                clear p0 p1
                generalize wr.drewN nq = wq at HOQ ⊢
                have HOA : Hid (OwnF w ((wq.alloc (.cells #[.int .i64 0, .slice Ab2 V d2] 77)).alloc (.cells #[.int .i64 0, .slice Ab2 V d2] 77)) u7 k (cellsF fs)) := Lib.hid ((HOQ.out.step ((Below.refl _ _).alloc (Nat.le_refl _) _)).step ((Below.refl _ _).alloc (Nat.le_refl _) _))
                have HY : Hid (Blk ((wq.alloc (.cells #[.int .i64 0, .slice Ab2 V d2] 77)).alloc (.cells #[.int .i64 0, .slice Ab2 V d2] 77)) (wq.heap.size + 1) 77 #[.int .i64 0, .slice Ab2 V d2]) := Lib.hid (by have h := Blk.new (wq.alloc (.cells #[.int .i64 0, .slice Ab2 V d2] 77)) 77 #[.int .i64 0, .slice Ab2 V d2]; rwa [show (wq.alloc (.cells #[.int .i64 0, .slice Ab2 V d2] 77)).heap.size = wq.heap.size + 1 by simp] at h)
                go_wp2_with (first | (go_at_call 63; refine (CS _).mono ?_; rintro e w' ⟨rfl, rfl⟩) | (refine wpList_append_own _ rfl (.tmp 88) (.tmp 90) 78 rfl w.heap.size 77 i0 _ 2 32 Tryz.underlying78 hi0 hiz his hib rfl (by decide) _ k _ rfl HOA.out.own ⟨wq.heap.size + 1, 0, none⟩ 1 1 [.int .i64 0, .slice Ab2 V d2] rfl rfl (fun j u hj => by rw [Addr.add_mid, Nat.zero_add]; exact (HY.out.cell j).trans (by simpa using hj)) (fun u hu => by simp at hu; rcases hu with rfl | rfl <;> rfl) (by unfold maxLen; omega) (by omega) HOA.out.bel.size ?_; intro v' w2 hown hgrow _; have HN : Hid (RRel1 s xs w0 w w2 (.slice A3 (n2 - V) (d2 - V)) v' (k + 1)) := Lib.hid (HRNX.out 0 (2 + V) ((ys.drop 2).take V) ⟨0, Ab2, V, d2, (ys.drop 2).take V⟩ _ v' w2 HNX.out HCUT.out (HOA.out.app hown hgrow) rfl rfl HFR.out); clear hown hgrow))
                go_roundw
                case rel => exact ⟨k + 1, by omega, by go_num, HN⟩
                case measure => simp [intOf]; omega
          · have bq1 : (((s[k]'hlt).toNat : Int) == 111) = false := by simp; omega
            have bq2 : (((s[k]'hlt).toNat : Int) == 116) = false := by simp; omega
            have hstep := step_num c1 c2 ys
            have hrange := fun (hl : Oc.zs (s[k]'hlt).toNat ≤ ys.length) => Oc.range_iff hL c1 c2 hys hl
            obtain ⟨hz0, hz8, hnz⟩ := zs_pos hL c1 c2
            have hsz : Oc.size (s[k]'hlt).toNat = Oc.zs (s[k]'hlt).toNat := by rcases Oc.letters hL with ⟨z, _, _, e1, e2, _⟩ | h | h; (rw [e1, ← hnz, e2]); exact absurd h c1; exact absurd h c2
            have hms := Oc.most_small (s[k]'hlt).toNat
            have CS := rsize_any (s[k]'hlt).toNat
            rw [hsz] at CS
            generalize Oc.zs (s[k]'hlt).toNat = z at hstep hrange hz0 hz8 CS
            generalize Oc.mostN (s[k]'hlt).toNat = M at hstep hrange hms
            clear hnz hsz
            have bz0 : ((z : Int) == 0) = false := by simp; omega
            by_cases hn : ys.length < z
            · have i5 : (ys.length : Int) < (z : Int) := by omega
              have HB := Lib.hid (HBD.out 2 (by rw [hstep, if_pos hn]))
              clear hi0 hiz his hib HNX HBD HRNX hA0 hAs hstep hrange
              go_wp2_with (go_at_call 63; refine (CS _).mono ?_; rintro e w' ⟨rfl, rfl⟩)
              go_ret3
              exact rrest_bad1 HKN.out.symm HB.out hbw.out rfl
            · have i5 : ¬ (ys.length : Int) < (z : Int) := by omega
              obtain ⟨b, o, rfl⟩ := hAs (by omega)
              have p00 : wr.cell? ⟨b, o, none⟩ = some (.int .u8 ((ys.getD 0 0 : Nat) : Int)) := hA0 b o rfl (by omega) 0 (by omega)
              have p0 : (wr.alloc (.cells #[.int .i64 0, .slice none 0 0] 77)).cell? ⟨b, o, none⟩ = some (.int .u8 ((ys.getD 0 0 : Nat) : Int)) := (((Below.refl _ _).alloc (Nat.le_refl _) _ : Below wr.heap.size wr _).cell (block_lt_of_cell p00)).trans p00
              clear p00
              have hri := hrange (by omega)
              rw [if_neg hn] at hstep
              have HX := Lib.hid (hA0 b o rfl (by omega))
              have q1 : ∀ w', (Instr.slice 32 (.slice (some ⟨b, o, none⟩) ys.length cb) none (some (.int .i64 (z : Int))) none).run Tryz.prog w' = .ok (.slice (some ⟨b, o, none⟩) z cb) w' := fun w' => run_sliceHi Tryz.underlying32 (by kernel_rfl) _ ys.length cb z (by omega) rfl w'
              have q2 : ∀ w', (Instr.slice 32 (.slice (some ⟨b, o, none⟩) ys.length cb) (some (.int .i64 (z : Int))) none none).run Tryz.prog w' = .ok (.slice (if cb = z then some ⟨b, o, none⟩ else (some (⟨b, o, none⟩ : Addr)).map (·.add z)) (ys.length - z) (cb - z)) w' := fun w' => run_sliceLoS Tryz.underlying32 (by kernel_rfl) _ ys.length cb z (by omega) rfl w'
              have HCUT := Lib.hid (HR3.out.cut (k := z) (by omega))
              generalize (if cb = z then some (⟨b, o, none⟩ : Addr) else (some (⟨b, o, none⟩ : Addr)).map (·.add z)) = A2 at q2 HCUT
              clear hA0 hAs hrange
              by_cases hbad : z = 8 ∧ 64 ≤ ys.getD 0 0
              · obtain ⟨rfl, h64⟩ := hbad
                have HB := Lib.hid (HBD.out 1 (by rw [hstep, if_pos (hri.2 ⟨rfl, h64⟩)]))
                have i6 : (64 : Int) ≤ ((ys.getD 0 0 : Nat) : Int) := by omega
                generalize ys.getD 0 0 = x at p0 i6 h64
                have CS' : ∀ w, Calls Tryz.prog 63 #[.int .u8 ((s[k]'hlt).toNat : Int)] w fun e w' => e = .returned (.int .i64 8) ∧ w = w' := CS
                clear CS hi0 hiz his hib HNX HBD HRNX hstep hri
                go_wp2_with (go_at_call 63; refine (CS' _).mono ?_; rintro e w' ⟨rfl, rfl⟩)
                go_ret3
                exact rrest_bad1 HKN.out.symm HB.out (below_then hbw.out ((Below.refl _ _).alloc (Nat.le_refl _) _)) rfl
              · have hVM : Oc.val (ys.take z) ≤ M := Nat.le_of_not_lt fun h => hbad (hri.1 h)
                have hNX := HNX.out (Oc.val (ys.take z)) z [] (by rw [hstep, if_neg (by omega)])
                clear HNX
                have HNX := Lib.hid hNX
                clear hNX HBD hstep hri
                have HFR : Hid (Rd w0 (.slice none 0 0) [] ∧ ([] : List Nat).length = 0) := Lib.hid ⟨Rd.nil [] rfl, rfl⟩
                have HOA : Hid (OwnF w ((wr.alloc (.cells #[.int .i64 ((Oc.val (ys.take z) : Nat) : Int), .slice none 0 0] 77)).alloc (.cells #[.int .i64 ((Oc.val (ys.take z) : Nat) : Int), .slice none 0 0] 77)) u7 k (cellsF fs)) := Lib.hid ((HOWN.out.step ((Below.refl _ _).alloc (Nat.le_refl _) _)).step ((Below.refl _ _).alloc (Nat.le_refl _) _))
                have HY : Hid (Blk ((wr.alloc (.cells #[.int .i64 ((Oc.val (ys.take z) : Nat) : Int), .slice none 0 0] 77)).alloc (.cells #[.int .i64 ((Oc.val (ys.take z) : Nat) : Int), .slice none 0 0] 77)) (wr.heap.size + 1) 77 #[.int .i64 ((Oc.val (ys.take z) : Nat) : Int), .slice none 0 0]) := Lib.hid (by have h := Blk.new (wr.alloc (.cells #[.int .i64 ((Oc.val (ys.take z) : Nat) : Int), .slice none 0 0] 77)) 77 #[.int .i64 ((Oc.val (ys.take z) : Nat) : Int), .slice none 0 0]; rwa [show (wr.alloc (.cells #[.int .i64 ((Oc.val (ys.take z) : Nat) : Int), .slice none 0 0] 77)).heap.size = wr.heap.size + 1 by simp] at h)
                have hgo : ((z : Int) == 8) = true → decide ((64 : Int) ≤ ((ys.getD 0 0 : Nat) : Int)) = false := fun h => decide_eq_false (by have h2 : (z : Int) = 8 := (by simpa using h); omega)
                have HVS : Hid (∀ m, m ≤ z → Oc.val (ys.take m) ≤ 4611686018427387903) := Lib.hid fun m hm => by have := Oc.val_mono (l := ys) hm (by omega); omega
                generalize ys.getD 0 0 = x at p0 hgo
                by_cases h8 : z = 8
                · have bz8 : ((z : Int) == 8) = true := by simp; omega
                  have i7 : ¬ (64 : Int) ≤ (x : Int) := of_decide_eq_false (hgo bz8)
                  clear hgo h8
                  go_wp2_with (go_at_call 63; refine (CS _).mono ?_; rintro e w' ⟨rfl, rfl⟩)
                  go_loopw [76] (fun j wj => ∃ m : Nat, m ≤ z ∧ j = .int .i64 m ∧ wj = wr.alloc (.cells #[.int .i64 ((Oc.val (ys.take m) : Nat) : Int), .slice none 0 0] 77)) (fun j _ => z - (intOf j).toNat)
                  case atStart => exact ⟨0, Nat.zero_le _, rfl, rfl⟩
                  case round =>
                    obtain ⟨m, hm, rfl, rfl⟩ := hrel
                    by_cases hmz : m < z
                    · have px : (wr.alloc (.cells #[.int .i64 ((Oc.val (ys.take m) : Nat) : Int), .slice none 0 0] 77)).cell? ⟨b, o + m, none⟩ = some (.int .u8 ((ys.getD m 0 : Nat) : Int)) := (((Below.refl _ _).alloc (Nat.le_refl _) _ : Below wr.heap.size wr _).cell (block_lt_of_cell (HX.out m (by omega)))).trans (HX.out m (by omega))
                      have hvt := Oc.val_take (l := ys) (k := m) (by omega)
                      have hs1 := HVS.out (m + 1) (by omega)
                      generalize ys.getD m 0 = y at px hvt
                      obtain ⟨V1, hV1⟩ : ∃ V1, V1 = Oc.val (ys.take (m + 1)) := ⟨_, rfl⟩
                      rw [← hV1] at hvt hs1
                      have HV1 := Lib.hid hV1
                      clear hV1
                      generalize Oc.val (ys.take m) = V at px hvt
                      have W1 : IntKind.i64.wrap ((V : Int) * 256) = (V : Int) * 256 := IntWalk.i64_in _ (by omega)
                      have W2 : (V : Int) * 256 + (y : Int) = (V1 : Int) := by omega
                      have W3 : IntKind.i64.wrap (V1 : Int) = (V1 : Int) := IntWalk.i64_in _ (by omega)
                      have iq4 : ((m : Nat) : Int) < (z : Int) := by omega
                      have iq5 : (0 : Int) ≤ ((m : Nat) : Int) := by omega
                      clear hvt
                      go_wp2
                      go_roundw
                      case rel => exact ⟨m + 1, by omega, by go_num, by rw [← HV1.out]⟩
                      case measure => simp [intOf]; omega
                    · obtain rfl : m = z := by omega
                      go_wp2_with (refine wpList_append_own _ rfl (.tmp 88) (.tmp 90) 78 rfl w.heap.size 77 i0 _ 2 32 Tryz.underlying78 hi0 hiz his hib rfl (by decide) _ k _ rfl HOA.out.own ⟨wr.heap.size + 1, 0, none⟩ 1 1 [.int .i64 ((Oc.val (ys.take m) : Nat) : Int), .slice none 0 0] rfl rfl (fun j u hj => by rw [Addr.add_mid, Nat.zero_add]; exact (HY.out.cell j).trans (by simpa using hj)) (fun u hu => by simp at hu; rcases hu with rfl | rfl <;> rfl) (by unfold maxLen; omega) (by omega) HOA.out.bel.size ?_; intro v' w2 hown hgrow _; have HN : Hid (RRel1 s xs w0 w w2 (.slice A2 (ys.length - m) (cb - m)) v' (k + 1)) := Lib.hid (HRNX.out (Oc.val (ys.take m)) m [] ⟨((Oc.val (ys.take m) : Nat) : Int), none, 0, 0, []⟩ _ v' w2 HNX.out HCUT.out (HOA.out.app hown hgrow) rfl rfl HFR.out); clear hown hgrow)
                      go_roundw
                      case rel => exact ⟨k + 1, by omega, by go_num, HN⟩
                      case measure => simp [intOf]; omega
                · have bz8 : ((z : Int) == 8) = false := by simp; omega
                  clear hgo h8
                  go_wp2_with (go_at_call 63; refine (CS _).mono ?_; rintro e w' ⟨rfl, rfl⟩)
                  go_loopw [76] (fun j wj => ∃ m : Nat, m ≤ z ∧ j = .int .i64 m ∧ wj = wr.alloc (.cells #[.int .i64 ((Oc.val (ys.take m) : Nat) : Int), .slice none 0 0] 77)) (fun j _ => z - (intOf j).toNat)
                  case atStart => exact ⟨0, Nat.zero_le _, rfl, rfl⟩
                  case round =>
                    obtain ⟨m, hm, rfl, rfl⟩ := hrel
                    by_cases hmz : m < z
                    · have px : (wr.alloc (.cells #[.int .i64 ((Oc.val (ys.take m) : Nat) : Int), .slice none 0 0] 77)).cell? ⟨b, o + m, none⟩ = some (.int .u8 ((ys.getD m 0 : Nat) : Int)) := (((Below.refl _ _).alloc (Nat.le_refl _) _ : Below wr.heap.size wr _).cell (block_lt_of_cell (HX.out m (by omega)))).trans (HX.out m (by omega))
                      have hvt := Oc.val_take (l := ys) (k := m) (by omega)
                      have hs1 := HVS.out (m + 1) (by omega)
                      generalize ys.getD m 0 = y at px hvt
                      obtain ⟨V1, hV1⟩ : ∃ V1, V1 = Oc.val (ys.take (m + 1)) := ⟨_, rfl⟩
                      rw [← hV1] at hvt hs1
                      have HV1 := Lib.hid hV1
                      clear hV1
                      generalize Oc.val (ys.take m) = V at px hvt
                      have W1 : IntKind.i64.wrap ((V : Int) * 256) = (V : Int) * 256 := IntWalk.i64_in _ (by omega)
                      have W2 : (V : Int) * 256 + (y : Int) = (V1 : Int) := by omega
                      have W3 : IntKind.i64.wrap (V1 : Int) = (V1 : Int) := IntWalk.i64_in _ (by omega)
                      have iq4 : ((m : Nat) : Int) < (z : Int) := by omega
                      have iq5 : (0 : Int) ≤ ((m : Nat) : Int) := by omega
                      clear hvt
                      go_wp2
                      go_roundw
                      case rel => exact ⟨m + 1, by omega, by go_num, by rw [← HV1.out]⟩
                      case measure => simp [intOf]; omega
                    · obtain rfl : m = z := by omega
                      go_wp2_with (refine wpList_append_own _ rfl (.tmp 88) (.tmp 90) 78 rfl w.heap.size 77 i0 _ 2 32 Tryz.underlying78 hi0 hiz his hib rfl (by decide) _ k _ rfl HOA.out.own ⟨wr.heap.size + 1, 0, none⟩ 1 1 [.int .i64 ((Oc.val (ys.take m) : Nat) : Int), .slice none 0 0] rfl rfl (fun j u hj => by rw [Addr.add_mid, Nat.zero_add]; exact (HY.out.cell j).trans (by simpa using hj)) (fun u hu => by simp at hu; rcases hu with rfl | rfl <;> rfl) (by unfold maxLen; omega) (by omega) HOA.out.bel.size ?_; intro v' w2 hown hgrow _; have HN : Hid (RRel1 s xs w0 w w2 (.slice A2 (ys.length - m) (cb - m)) v' (k + 1)) := Lib.hid (HRNX.out (Oc.val (ys.take m)) m [] ⟨((Oc.val (ys.take m) : Nat) : Int), none, 0, 0, []⟩ _ v' w2 HNX.out HCUT.out (HOA.out.app hown hgrow) rfl rfl HFR.out); clear hown hgrow)
                      go_roundw
                      case rel => exact ⟨k + 1, by omega, by go_num, HN⟩
                      case measure => simp [intOf]; omega
      · obtain rfl : k = s.size := by omega
        have H := Lib.hid (rrest_done1 HW0.out HKN.out.symm HR.out)
        go_wp2
        go_ret3
        exact H.out
end Go.Proofs.YtjkneidoochfjaaGreatDoor
