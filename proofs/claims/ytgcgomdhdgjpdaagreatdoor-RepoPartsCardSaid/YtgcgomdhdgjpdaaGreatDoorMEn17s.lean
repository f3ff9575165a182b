/- The law's own helpers: alive, Long, Of. -/
import Derived.Test.YtgcgomdhdgjpdaaGreatDoorMRp4s
import Derived.Test.YtgcgomdhdgjpdaaGreatDoorMOb3s
namespace Go.Proofs.YtgcgomdhdgjpdaaGreatDoor
open Go Go.RowKit
def En.long (os : List (List Nat)) : Bool := decide (70 < os.length) || (os.any (fun x => decide (400 < x.length)) || decide (6000 < (os.map List.length).sum))
theorem sum_take {os : List (List Nat)} {k : Nat} (h : k < os.length) : ((os.take (k + 1)).map List.length).sum = ((os.take k).map List.length).sum + os[k].length := by
 rw [List.take_succ_eq_append_getElem h, List.map_append, List.sum_append]
 simp
theorem sum_few {os : List (List Nat)} (h : ∀ x ∈ os, x.length ≤ 400) : (os.map List.length).sum ≤ 400 * os.length := by
 induction os with
 | nil => simp
 | cons x os ih =>
  have h1 := h x (List.mem_cons_self ..)
  have h2 := ih fun y hy => h y (List.mem_cons_of_mem _ hy)
  rw [List.map_cons, List.sum_cons, List.length_cons]
  omega
set_option maxRecDepth 100000 in
set_option maxHeartbeats 4000000 in
theorem elong_any (A : Option Addr) (n c : Nat) (ts : List En.Bt) (w : World) (h : BtT w A n ts) :
  Calls Tryz.prog 36 #[.slice A n c] w fun r w' => r = .returned (.bool (En.long (ts.map (·.text)))) ∧ w' = w := by
 have HLL : Hid ((ts.map (·.text)).length = n) := Lib.hid (by rw [List.length_map]; exact h.len.symm)
 obtain ⟨os, hos⟩ : ∃ os, os = ts.map (·.text) := ⟨_, rfl⟩
 rw [← hos] at HLL ⊢
 by_cases h70 : 70 < n
 ·have g1 : (70 : Int) < (n : Int) := by omega
  have HF : Hid (En.long os = true) := Lib.hid (by unfold En.long; rw [HLL.out, decide_eq_true h70]; rfl)
  clear h h70
  go_enter Tryz.func36, Tryz.ntmps36
  go_wp2
  go_ret
  exact ⟨by rw [HF.out]; rfl, rfl⟩
 have g1 : ¬ (70 : Int) < (n : Int) := by omega
 have HCE : Hid (0 < n → ∃ b o, A = some ⟨b, o, none⟩ ∧ ∀ i (hi : i < os.length), ∃ A1 c1, w.cell? ⟨b, o + i, none⟩ = some (.slice A1 os[i].length c1)) := Lib.hid (fun h0 => by
  obtain ⟨b, o, ha, hb, hx⟩ := h.row h0
  refine ⟨b, o, ha, fun i hi => ?_⟩
  have hit : i < ts.length := by rw [hos, List.length_map] at hi; exact hi
  obtain ⟨⟨A1, c1, hpv, _⟩, _⟩ := h.rd _ (List.getElem_mem hit)
  refine ⟨A1, c1, ?_⟩
  have e1 : os[i] = ts[i].text := by subst hos; simp
  rw [e1, ← hpv]
  exact hx i _ (List.getElem?_eq_getElem hit))
 have HN70 : Hid (n ≤ 70) := Lib.hid (by omega)
 clear h h70 hos
 go_enter Tryz.func36, Tryz.ntmps36
 go_wp2
 go_loopw [3, 11] (fun s i wr => wr = w ∧ ∃ k : Nat, k ≤ n ∧ i = .int .i64 k ∧ ∃ m : Nat, s = .int .i64 m ∧ Hid (m = ((os.take k).map List.length).sum ∧ ∀ x ∈ os.take k, x.length ≤ 400)) (fun _ i _ => n - (intOf i).toNat)
 case atStart => exact ⟨rfl, 0, Nat.zero_le _, rfl, 0, rfl, Lib.hid ⟨rfl, fun x hx => (by cases hx)⟩⟩
 case round =>
  obtain ⟨rfl, k, hk, rfl, m, rfl, HM⟩ := hrel
  have hm4 : m ≤ 28000 := by
   have h1 := sum_few HM.out.2
   have h2 := HN70.out
   rw [← HM.out.1, List.length_take] at h1
   omega
  by_cases hlt : k < n
  ·have hki : k < os.length := by rw [HLL.out]; exact hlt
   obtain ⟨b, o, rfl, hx⟩ := HCE.out (by omega)
   obtain ⟨A1, c1, pc⟩ := hx k hki
   have i1 : ((k : Nat) : Int) < n := by omega
   have i2 : (0 : Int) ≤ ((k : Nat) : Int) := by omega
   have i3 : ((k : Nat) : Int) < 70 := by have := HN70.out; omega
   have i4 : ((m : Nat) : Int) ≤ 28000 := by omega
   have i5 : (0 : Int) ≤ ((m : Nat) : Int) := by omega
   have HST := Lib.hid (sum_take hki)
   have HTK := Lib.hid (List.take_succ_eq_append_getElem hki)
   have HMM : Hid (os[k] ∈ os) := Lib.hid (List.getElem_mem hki)
   obtain ⟨y, hy⟩ : ∃ y, y = os[k] := ⟨_, rfl⟩
   rw [← hy] at pc HST HTK HMM
   obtain ⟨l1, hl1⟩ : ∃ l, l = y.length := ⟨_, rfl⟩
   rw [← hl1] at pc HST
   have HL1 := Lib.hid hl1
   clear hx hki hy hl1 hm4
   by_cases hl : 400 < l1
   ·have g2 : (400 : Int) < (l1 : Int) := by omega
    have HF : Hid (En.long os = true) := Lib.hid (by
     have h1 : os.any (fun x => decide (400 < x.length)) = true := List.any_eq_true.2 ⟨y, HMM.out, decide_eq_true (by rw [← HL1.out]; exact hl)⟩
     unfold En.long
     rw [h1]
     simp)
    clear hl
    go_wp2
    go_ret
    exact ⟨by rw [HF.out]; rfl, rfl⟩
   ·have g2 : ¬ (400 : Int) < (l1 : Int) := by omega
    have g3 : (l1 : Int) ≤ 400 := by omega
    have g4 : (0 : Int) ≤ (l1 : Int) := by omega
    have HM2 : Hid (m + l1 = ((os.take (k + 1)).map List.length).sum ∧ ∀ x ∈ os.take (k + 1), x.length ≤ 400) := Lib.hid ⟨by rw [HST.out, ← HM.out.1], fun x hx => by
     rw [HTK.out] at hx
     rcases List.mem_append.1 hx with hx | hx
     ·exact HM.out.2 x hx
     ·rw [List.mem_singleton.1 hx, ← HL1.out]; omega⟩
    have HLT : Hid (k + 1 ≤ n) := Lib.hid hlt
    clear hl hlt hk
    go_wp2
    go_roundw
    case rel => exact ⟨trivial, k + 1, HLT.out, by go_num, m + l1, by go_num, HM2⟩
    case measure => have h5 := HLT.out; simp [intOf]; omega
  ·obtain rfl : k = n := by omega
   have ik : ¬ ((k : Nat) : Int) < k := by omega
   have HE : Hid (En.long os = decide (6000 < m)) := Lib.hid (by
    have h1 := HM.out
    rw [← HLL.out, List.take_length] at h1
    have h2 : os.any (fun x => decide (400 < x.length)) = false := by
     rw [List.any_eq_false]
     intro x hx
     have := h1.2 x hx
     simp; omega
    unfold En.long
    rw [h2, decide_eq_false (show ¬ 70 < os.length by rw [HLL.out]; exact fun h => by have := HN70.out; omega), ← h1.1]
    rfl)
   clear hk hlt
   by_cases h6 : 6000 < m
   ·have g6 : (6000 : Int) < (m : Int) := by omega
    have HF : Hid (En.long os = true) := Lib.hid (by rw [HE.out, decide_eq_true h6])
    clear h6 hm4
    go_wp2
    go_ret
    exact ⟨by rw [HF.out]; rfl, rfl⟩
   ·have g6 : ¬ (6000 : Int) < (m : Int) := by omega
    have HF : Hid (En.long os = false) := Lib.hid (by rw [HE.out, decide_eq_false h6])
    clear h6 hm4
    go_wp2
    go_ret
    exact ⟨by rw [HF.out]; rfl, rfl⟩
def En.few (e : En.E) : Bool := decide (e.ups.length ≤ 20) && (!(En.long e.objs) && e.ups.all (fun u => decide (u.ref.size ≤ 100)))
def ecs (e : En.E) (v : Value) (O : Option Addr) (co : Nat) : Array Value := #[.int .i64 e.client, .int .i64 e.number, .int .i64 e.answer, v, .slice O e.objs.length co]
abbrev zR : Array Value := #[.int .i64 0, .int .i64 0, .int .i64 0, .slice none 0 0, .slice none 0 0]
theorem rup_places : (Tryz.prog.fieldsOf 92).toList.mapM (fun f => (Tryz.prog.info? f.type).map fun i => (f.offset, i.size)) = some [(0, 1), (1, 32), (33, 32)] := by kernel_rfl
theorem rup_zero : ((Tryz.prog.info? 92).bind (·.zero)).map (·.cells) = some (cellsU1 ⟨⟨#[]⟩, List.replicate 32 0, List.replicate 32 0⟩).toArray := by kernel_rfl
theorem rup_under : Tryz.prog.underlying 92 = some (.struct (Tryz.prog.fieldsOf 92)) := by kernel_rfl
theorem rup_fill (u : En.Up) (h : u.Fit) : Instr.fill (([(0, 1), (1, 32), (33, 32)] : List (Nat × Nat)).toArray[·]?) (cellsU1 ⟨⟨#[]⟩, List.replicate 32 0, List.replicate 32 0⟩).toArray [(0, .string u.ref), (1, .agg (cellsB u.old).toArray), (2, .agg (cellsB u.new).toArray)] = some (cellsU1 u).toArray := by
 have e1 := fill_part (fun i => ([(0, 1), (1, 32), (33, 32)] : List (Nat × Nat)).toArray[i]?) 0 0 1 (.string u.ref) [(1, .agg (cellsB u.old).toArray), (2, .agg (cellsB u.new).toArray)] [.string u.ref] [.string ⟨#[]⟩] [] (cellsB (List.replicate 32 0) ++ cellsB (List.replicate 32 0)) rfl rfl rfl rfl rfl
 have e2 := fill_part (fun i => ([(0, 1), (1, 32), (33, 32)] : List (Nat × Nat)).toArray[i]?) 1 1 32 (.agg (cellsB u.old).toArray) [(2, .agg (cellsB u.new).toArray)] (cellsB u.old) (cellsB (List.replicate 32 0)) [.string u.ref] (cellsB (List.replicate 32 0)) rfl rfl (by rw [cellsB_len, h.1.1]) (by rw [cellsB_len]; rfl) rfl
 have e3 := fill_part (fun i => ([(0, 1), (1, 32), (33, 32)] : List (Nat × Nat)).toArray[i]?) 2 33 32 (.agg (cellsB u.new).toArray) [] (cellsB u.new) (cellsB (List.replicate 32 0)) (.string u.ref :: cellsB u.old) [] rfl rfl (by rw [cellsB_len, h.2.1]) (by rw [cellsB_len]; rfl) (by rw [List.length_cons, cellsB_len, h.1.1])
 rw [List.append_nil, List.append_nil] at e3
 exact e1.trans (e2.trans e3)
theorem rup_built (u : En.Up) (h : u.Fit) : Tryz.prog.built 92 [(0, .string u.ref), (1, .agg (cellsB u.old).toArray), (2, .agg (cellsB u.new).toArray)] = some (cellsU1 u).toArray := by
 rw [built_of rup_under rup_zero rup_places]
 exact rup_fill u h
theorem rup_info : (Tryz.prog.info? 92).map (fun i => (i.zero, i.size, i.bytes)) = some (some (.agg (cellsU1 ⟨⟨#[]⟩, List.replicate 32 0, List.replicate 32 0⟩).toArray), 65, 80) := by kernel_rfl
theorem rent5_load {cs : Array Value} (h : cs.size = 5) : (Tryz.prog.info? 58).map (·.size) = some cs.size := by rw [h]; kernel_rfl
theorem rent5_built (x y z : Int) (O : Option Addr) (no co : Nat) : Tryz.prog.built 58 [(0, .int .i64 x), (1, .int .i64 y), (2, .int .i64 z), (4, .slice O no co)] = some #[.int .i64 x, .int .i64 y, .int .i64 z, .slice none 0 0, .slice O no co] := by kernel_rfl
structure EOf (w wr : World) (e : En.E) (ca : Array Value) (U : Option Addr) (cu : Nat) (O : Option Addr) (co : Nat) (ts : List En.Bt) (g1 g2 : Nat) (v : Value) (k : Nat) : Prop where
 en : EnB w wr e ca U cu O co ts
 r1 : Blk wr g1 58 zR
 r2 : Blk wr g2 58 (ecs e v O co)
 own : wr.ownsRow (g2 + 1) 92 65 v k (cellsU (e.ups.take k))
 ord : w.heap.size < g1 ∧ g1 < g2 ∧ g2 < wr.heap.size
section
variable {w wr w' : World} {e : En.E} {ca : Array Value} {U O : Option Addr} {cu co g1 g2 k : Nat} {ts : List En.Bt} {v v2 : Value} {cs : List Value}
theorem ecs_one (h : w.ownsRow g1 92 65 v k cs) : (ecs e v O co).all (·.oneCell') = true := by
 obtain ⟨A, c, rfl⟩ := own_slice h
 simp [ecs, Value.oneCell']
theorem EOf.below (h : EOf w wr e ca U cu O co ts g1 g2 v k) (hb : Below wr.heap.size wr w') : EOf w w' e ca U cu O co ts g1 g2 v k :=
 ⟨h.en.below hb, h.r1.below hb h.r1.lt, h.r2.below hb h.r2.lt, h.own.kept (only_of_below hb none) (by cases hv : v.ownBlock with | none => exact Or.inl rfl | some g => exact Or.inr (by simp)), by have := h.ord; have := hb.size; omega⟩
structure EOg (w wr : World) (e : En.E) (ca : Array Value) (U : Option Addr) (cu : Nat) (O : Option Addr) (co : Nat) (ts : List En.Bt) (g1 g2 : Nat) (v v2 : Value) (k : Nat) : Prop where
 en : EnB w wr e ca U cu O co ts
 r1 : Blk wr g1 58 zR
 r2 : Blk wr g2 58 (ecs e v O co)
 own : wr.ownsRow (g2 + 1) 92 65 v2 (k + 1) (cellsU (e.ups.take (k + 1)))
 ord : w.heap.size < g1 ∧ g1 < g2 ∧ g2 < wr.heap.size
theorem EOf.grow (h : EOf w wr e ca U cu O co ts g1 g2 v k) (h0 : EnC w e ca U cu O co ts) (ho : w'.ownsRow (g2 + 1) 92 65 v2 (k + 1) (cellsU (e.ups.take (k + 1)))) (hg : wr.grownBy w' v.ownBlock) : EOg w w' e ca U cu O co ts g1 g2 v v2 k :=
 have ne : ∀ {g}, g < g2 + 1 → some g ≠ v.ownBlock := fun hg e => by
  have := (h.own.lt _ e.symm).1
  omega
 have hb : Below w.heap.size w w' := ⟨hg.os.trans h.en.bel.os, hg.tape.trans h.en.bel.tape, hg.output.trans h.en.bel.output, Nat.le_trans h.en.bel.size hg.size, fun b hb => (hg.block b (Nat.lt_of_lt_of_le hb h.en.bel.size) (ne (by have := h.ord; omega))).trans (h.en.bel.block b hb)⟩
 ⟨⟨hb, h.en.box.grown hg (ne (by have := h.ord; omega)), h0.below hb⟩, h.r1.grown hg (ne (by have := h.ord; omega)), h.r2.grown hg (ne (by omega)), ho, by have := h.ord; have := hg.size; omega⟩
theorem EOg.done (h : EOg w wr e ca U cu O co ts g1 g2 v v2 k) (h0 : EnC w e ca U cu O co ts) : EOf w (wr.setCell ⟨g2, 3, none⟩ v2) e ca U cu O co ts g1 g2 v2 (k + 1) :=
 have hb : Below w.heap.size w (wr.setCell ⟨g2, 3, none⟩ v2) := h.en.bel.setCell (p := ⟨g2, 3, none⟩) (by show w.heap.size ≤ g2; have := h.ord; omega) v2
 ⟨⟨hb, h.en.box.far (by show w.heap.size ≠ g2; have := h.ord; omega) v2, h0.below hb⟩, h.r1.far (by show g1 ≠ g2; have := h.ord; omega) v2, by have h1 := h.r2.set_ 3 v2; exact h1, ownsRow_far h.own (by show g2 < g2 + 1; omega) _, by have := h.ord; simpa [World.setCell] using this⟩
theorem EOf.res (h : EOf w wr e ca U cu O co ts g1 g2 v k) : Blk (wr.setRow g1 (ecs e v O co)) g1 58 (ecs e v O co) ∧ Below w.heap.size w (wr.setRow g1 (ecs e v O co)) ∧ (wr.setRow g1 (ecs e v O co)).ownsRow (g2 + 1) 92 65 v k (cellsU (e.ups.take k)) :=
 ⟨h.r1.row _, below_row h.en.bel (by have := h.ord; omega) _, h.own.kept (only_setRow (World.grownBy.refl wr _) (Or.inl rfl) _ : wr.grownBy _ (some g1)) (by
  cases hv : v.ownBlock with
  | none => exact Or.inl rfl
  | some g => exact Or.inr (fun e => by have := (h.own.lt g hv).1; injection e with e; have := h.ord; omega))⟩
end
def EOfPost (e : En.E) (O : Option Addr) (co : Nat) (ts : List En.Bt) (w : World) (r : Ending) (w' : World) : Prop :=
 Below w.heap.size w w' ∧ (En.few e = true → ∃ U' cu', r = .returned (.tuple #[.agg (ecs e (.slice U' e.ups.length cu') O co), .bool true]) ∧ EnC w' e (ecs e (.slice U' e.ups.length cu') O co) U' cu' O co ts) ∧
 (En.few e = false → ∃ cs : Array Value, r = .returned (.tuple #[.agg cs, .bool false]) ∧ cs.size = 5 ∧ cs.all (·.oneCell') = true)
set_option maxRecDepth 100000 in
set_option maxHeartbeats 8000000 in
theorem eof_any (e : En.E) (ca : Array Value) (U O : Option Addr) (cu co : Nat) (ts : List En.Bt) (w : World) (h : EnC w e ca U cu O co ts) :
  Calls Tryz.prog 20 #[.agg ca] w (EOfPost e O co ts w) := by
 obtain ⟨w2, hw2⟩ : ∃ w2, w2 = (w.alloc (.cells ca 32)).alloc (.cells zR 58) := ⟨_, rfl⟩
 have b1 : Below w.heap.size w (w.alloc (.cells ca 32)) := (Below.refl _ _).alloc (Nat.le_refl _) _
 have hb : EnB w w2 e ca U cu O co ts := hw2 ▸ (EnB.of h).below ((Below.refl _ _).alloc (Nat.le_refl _) _)
 have hr1 : Blk w2 (w.heap.size + 1) 58 zR := by rw [hw2]; have h1 := Blk.new (w.alloc (.cells ca 32)) 58 zR; rwa [World.size_alloc] at h1
 have hsz : w2.heap.size = w.heap.size + 2 := by rw [hw2]; simp
 have p0 := hb.c0
 have p1 := hb.c1
 have p2 := hb.c2
 have p4 := hb.c4
 have HB := Lib.hid hb
 have HR1 := Lib.hid hr1
 have H0 := Lib.hid h
 have HSZ := Lib.hid hsz
 obtain ⟨ip, hip, hpz, hps, hpb⟩ := info_parts rup_info
 have HIP : Hid (_ ∧ _ ∧ _ ∧ _) := Lib.hid ⟨hip, hpz, hps, hpb⟩
 have e1 := hw2.symm
 clear h hb hr1 hsz hw2 hip hpz hps hpb b1
 go_enter Tryz.func20, Tryz.ntmps20
 go_wp2_with (with_reducible (show wpList _ _ _ (Oper.mk _ (Op.build 58 _) _ _ _ _ :: _) _ _); refine pause ?_)
 unfold Paused
 refine wpList_buildK (by rfl) 58 _ (by rfl) _ (by kernel_rfl) _ (rent5_built e.client e.number e.answer O e.objs.length co) ?_
 go_wp2_with (with_reducible (show wpList _ _ _ (Oper.mk _ (Op.store 58 _ _) _ _ _ _ :: _) _ _); refine pause ?_)
 unfold Paused
 change wpList _ _ _ _ _ (w2.alloc (.cells zR 58))
 refine wpList_store_row (by rfl) 58 (.tmp 4) (.tmp 15) (by rfl) w2.heap.size (ecs e (.slice none 0 0) O co) (by rfl) (by rfl) 58 zR (Blk.new w2 _ _) (rent5_load rfl) (by rfl) (by simp [ecs, Value.oneCell']) ?_
 have b3 : Below w2.heap.size w2 ((w2.alloc (.cells zR 58)).setRow w2.heap.size (ecs e (.slice none 0 0) O co)) := below_row ((Below.refl _ _).alloc (Nat.le_refl _) _) (Nat.le_refl _) _
 have HW : Hid (EOf w ((w2.alloc (.cells zR 58)).setRow w2.heap.size (ecs e (.slice none 0 0) O co)) e ca U cu O co ts (w.heap.size + 1) w2.heap.size (.slice none 0 0) 0) := Lib.hid ⟨HB.out.below b3, HR1.out.below b3 HR1.out.lt, (Blk.new w2 _ _).row _, ⟨rfl, .inl ⟨rfl, rfl⟩⟩, by have := HSZ.out; simp; omega⟩
 clear b3 HB HR1 p0 p1 p2 p4 e1
 generalize (w2.alloc (.cells zR 58)).setRow w2.heap.size (ecs e (.slice none 0 0) O co) = w3 at HW ⊢
 generalize w2.heap.size = g2 at HW HSZ ⊢
 clear w2
 generalize w.heap.size + 1 = g1 at HW ⊢
 simp only [Act.put]
 have p3 := HW.out.en.c3
 have p4 := HW.out.en.c4
 obtain ⟨nu, hnu⟩ : ∃ n, n = e.ups.length := ⟨_, rfl⟩
 obtain ⟨no, hno⟩ : ∃ n, n = e.objs.length := ⟨_, rfl⟩
 rw [← hnu] at p3
 rw [← hno] at p4
 have HNU := Lib.hid hnu
 have CL := elong_any O no co ts w3 (by rw [hno]; exact HW.out.en.ent.objs)
 rw [H0.out.txt] at CL
 clear hnu hno
 by_cases h20 : 20 < nu
 ·have i1 : (20 : Int) < (nu : Int) := by omega
  have HF : Hid (En.few e = false) := Lib.hid (by unfold En.few; rw [decide_eq_false (by rw [← HNU.out]; omega)]; rfl)
  clear h20 CL
  go_wp2_with (with_reducible (show wpList _ _ _ (Oper.mk _ (Op.load 58 _) _ _ _ _ :: _) _ _); refine pause ?_)
  unfold Paused
  refine wpList_row_w (by rfl) 58 (.tmp 4) (by rfl) g2 (by rfl) 58 (ecs e (.slice none 0 0) O co) _ HW.out.r2 (by first | exact Tryz.underlying58 | kernel_rfl) (by rfl) (rent5_load rfl) ?_
  go_wp2_with (with_reducible (show wpList _ _ _ (Oper.mk _ (Op.store 58 _ _) _ _ _ _ :: _) _ _); refine pause ?_)
  unfold Paused
  refine wpList_store_row (by rfl) 58 (.tmp 2) (.tmp 25) (by rfl) g1 (ecs e (.slice none 0 0) O co) (by rfl) (by rfl) 58 zR HW.out.r1 (rent5_load rfl) (by rfl) (ecs_one HW.out.own) ?_
  have HZ := Lib.hid HW.out.res
  have HO1 : Hid ((ecs e (.slice none 0 0) O co).all (·.oneCell') = true) := Lib.hid (ecs_one HW.out.own)
  generalize w3.setRow g1 (ecs e (.slice none 0 0) O co) = w9 at HZ ⊢
  simp only [Act.put]
  go_wp2
  exact bodyPost_ret (v := .tuple #[.agg (ecs e (.slice none 0 0) O co), .bool false]) (results_cell_row2 rfl _ _ g1 58 (ecs e (.slice none 0 0) O co) _ _ (by rfl) (by rfl) HZ.out.1 (by first | exact Tryz.underlying58 | kernel_rfl) rfl (rent5_load rfl)) rfl ⟨HZ.out.2.1, fun h => (by rw [HF.out] at h; cases h), fun _ => ⟨_, rfl, rfl, HO1.out⟩⟩
 have i1 : ¬ (20 : Int) < (nu : Int) := by omega
 have HN20 : Hid (nu ≤ 20) := Lib.hid (by omega)
 clear h20
 go_wp2_with (go_at_call 36; refine pause ?_)
 unfold Paused
 refine CL.mono ?_
 rintro r w4 ⟨rfl, rfl⟩
 clear CL
 cases hlg : En.long e.objs
 rotate_left
 ·have HF : Hid (En.few e = false) := Lib.hid (by unfold En.few; rw [hlg]; simp)
  clear hlg
  go_wp2_with (with_reducible (show wpList _ _ _ (Oper.mk _ (Op.load 58 _) _ _ _ _ :: _) _ _); refine pause ?_)
  unfold Paused
  refine wpList_row_w (by rfl) 58 (.tmp 4) (by rfl) g2 (by rfl) 58 (ecs e (.slice none 0 0) O co) _ HW.out.r2 (by first | exact Tryz.underlying58 | kernel_rfl) (by rfl) (rent5_load rfl) ?_
  go_wp2_with (with_reducible (show wpList _ _ _ (Oper.mk _ (Op.store 58 _ _) _ _ _ _ :: _) _ _); refine pause ?_)
  unfold Paused
  refine wpList_store_row (by rfl) 58 (.tmp 2) (.tmp 25) (by rfl) g1 (ecs e (.slice none 0 0) O co) (by rfl) (by rfl) 58 zR HW.out.r1 (rent5_load rfl) (by rfl) (ecs_one HW.out.own) ?_
  have HZ := Lib.hid HW.out.res
  have HO1 : Hid ((ecs e (.slice none 0 0) O co).all (·.oneCell') = true) := Lib.hid (ecs_one HW.out.own)
  generalize w4.setRow g1 (ecs e (.slice none 0 0) O co) = w9 at HZ ⊢
  simp only [Act.put]
  go_wp2
  exact bodyPost_ret (v := .tuple #[.agg (ecs e (.slice none 0 0) O co), .bool false]) (results_cell_row2 rfl _ _ g1 58 (ecs e (.slice none 0 0) O co) _ _ (by rfl) (by rfl) HZ.out.1 (by first | exact Tryz.underlying58 | kernel_rfl) rfl (rent5_load rfl)) rfl ⟨HZ.out.2.1, fun h => (by rw [HF.out] at h; cases h), fun _ => ⟨_, rfl, rfl, HO1.out⟩⟩
 have HLG := Lib.hid hlg
 clear hlg
 go_wp2
 clear p4
 go_loopw [29] (fun i wr => ∃ (k : Nat) (v : Value), k ≤ nu ∧ i = .int .i64 k ∧ Hid (EOf w wr e ca U cu O co ts g1 g2 v k) ∧ Hid (∀ u ∈ e.ups.take k, u.ref.size ≤ 100)) (fun i _ => nu - (intOf i).toNat)
 case atStart => exact ⟨0, _, Nat.zero_le _, rfl, HW, Lib.hid (fun u hu => by cases hu)⟩
 case round =>
  obtain ⟨k, v, hk, rfl, HWk, HSm⟩ := hrel
  obtain ⟨vA, vc, rfl⟩ := own_slice HWk.out.own
  by_cases hlt : k < nu
  ·have hki : k < e.ups.length := by rw [← HNU.out]; exact hlt
   obtain ⟨b, o, rfl, hbl, hrg⟩ := H0.out.ups.up rfl H0.out.fit hki
   have hft := H0.out.fit _ (List.getElem_mem hki)
   have HTK := Lib.hid (List.take_succ_eq_append_getElem hki)
   have hmm : e.ups[k] ∈ e.ups := List.getElem_mem hki
   generalize e.ups[k] = u at hrg hft HTK hmm
   have HMM := Lib.hid hmm
   have HFU := Lib.hid hft
   have HRG : Hid (wr.rangeAt b (o + k * 65) (cellsU1 u)) := Lib.hid (fun j v hj => (HWk.out.en.bel.cell (p := ⟨b, o + k * 65 + j, none⟩) hbl).trans (hrg j v hj))
   have i2 : ((k : Nat) : Int) < nu := by omega
   have i3 : (0 : Int) ≤ ((k : Nat) : Int) := by omega
   have i4 : ((nu : Nat) : Int) ≤ 20 := by have := HN20.out; omega
   have HLT : Hid (k + 1 ≤ nu) := Lib.hid hlt
   clear hki hbl hrg hft hmm hk hlt
   go_wp2_with (with_reducible (show wpList _ _ _ (Oper.mk _ (Op.load 89 _) _ _ _ _ :: _) _ _); refine pause ?_)
   unfold Paused
   refine wpList_mid_w (by rfl) 89 (.tmp 31) (by rfl) b (o + k * 65) (by rfl) (cellsU1 u) _ HRG.out Tryz.underlying89 (by rfl) (upd_load HFU.out) ?_
   go_wp2_with (with_reducible (show wpList _ _ _ (Oper.mk _ (Op.store 89 _ _) _ _ _ _ :: _) _ _); refine pause ?_)
   unfold Paused
   change wpList _ _ _ _ _ (wr.alloc (.cells zU 89))
   refine wpList_store_row (by rfl) 89 (.tmp 6) (.tmp 32) (by rfl) wr.heap.size (cellsU1 u).toArray (by rfl) (by rfl) 89 zU (Blk.new wr _ _) (upd_load2 HFU.out) (by rw [zU_size, List.size_toArray, cellsU1_len HFU.out]) (cellsU1_one u) ?_
   have b6 : Below wr.heap.size wr ((wr.alloc (.cells zU 89)).setRow wr.heap.size (cellsU1 u).toArray) := below_row ((Below.refl _ _).alloc (Nat.le_refl _) _) (Nat.le_refl _) _
   have HWa := Lib.hid (HWk.out.below b6)
   have HXa : Hid (Blk ((wr.alloc (.cells zU 89)).setRow wr.heap.size (cellsU1 u).toArray) wr.heap.size 89 (cellsU1 u).toArray) := Lib.hid ((Blk.new wr _ _).row _)
   clear b6 HRG HWk
   generalize (wr.alloc (.cells zU 89)).setRow wr.heap.size (cellsU1 u).toArray = wa at HWa HXa ⊢
   generalize wr.heap.size = gx at HXa ⊢
   simp only [Act.put]
   have d0 : wa.cell? ⟨gx, 0, none⟩ = some (.string u.ref) := HXa.out.cell 0
   have d2 : wa.cell? ⟨g2, 3, none⟩ = some (.slice vA k vc) := HWa.out.r2.cell 3
   by_cases hbig : 100 < u.ref.size
   ·have g3 : (100 : Int) < (u.ref.size : Int) := by omega
    have HF : Hid (En.few e = false) := Lib.hid (by
     have h1 : e.ups.all (fun u => decide (u.ref.size ≤ 100)) = false := by
      rw [List.all_eq_false]
      exact ⟨u, HMM.out, by simp; omega⟩
     unfold En.few
     rw [h1]
     simp)
    clear hbig
    go_wp2_with (with_reducible (show wpList _ _ _ (Oper.mk _ (Op.load 58 _) _ _ _ _ :: _) _ _); refine pause ?_)
    unfold Paused
    refine wpList_row_w (by rfl) 58 (.tmp 4) (by rfl) g2 (by rfl) 58 (ecs e (.slice vA k vc) O co) _ HWa.out.r2 (by first | exact Tryz.underlying58 | kernel_rfl) (by rfl) (rent5_load rfl) ?_
    go_wp2_with (with_reducible (show wpList _ _ _ (Oper.mk _ (Op.store 58 _ _) _ _ _ _ :: _) _ _); refine pause ?_)
    unfold Paused
    refine wpList_store_row (by rfl) 58 (.tmp 2) (.tmp 37) (by rfl) g1 (ecs e (.slice vA k vc) O co) (by rfl) (by rfl) 58 zR HWa.out.r1 (rent5_load rfl) (by rfl) (ecs_one HWa.out.own) ?_
    have HZ := Lib.hid HWa.out.res
    have HO1 : Hid ((ecs e (.slice vA k vc) O co).all (·.oneCell') = true) := Lib.hid (ecs_one HWa.out.own)
    generalize wa.setRow g1 (ecs e (.slice vA k vc) O co) = w9 at HZ ⊢
    simp only [Act.put]
    go_wp2
    exact bodyPost_ret (v := .tuple #[.agg (ecs e (.slice vA k vc) O co), .bool false]) (results_cell_row2 rfl _ _ g1 58 (ecs e (.slice vA k vc) O co) _ _ (by rfl) (by rfl) HZ.out.1 (by first | exact Tryz.underlying58 | kernel_rfl) rfl (rent5_load rfl)) rfl ⟨HZ.out.2.1, fun h => (by rw [HF.out] at h; cases h), fun _ => ⟨_, rfl, rfl, HO1.out⟩⟩
   ·have g3 : ¬ (100 : Int) < (u.ref.size : Int) := by omega
    have HSM3 : Hid (∀ x ∈ e.ups.take (k + 1), x.ref.size ≤ 100) := Lib.hid (fun x hx => by
     rw [HTK.out] at hx
     rcases List.mem_append.1 hx with hx | hx
     ·exact HSm.out x hx
     ·rw [List.mem_singleton.1 hx]; omega)
    clear hbig
    go_wp2_with (with_reducible (show wpList _ _ _ (Oper.mk _ (Op.load 41 _) _ _ _ _ :: _) _ _); refine pause ?_)
    unfold Paused
    refine wpList_mid_w (by rfl) 41 (.tmp 42) (by rfl) gx 1 (by rfl) _ _ (up_rng_old HFU.out HXa.out) Tryz.underlying41 (by rfl) (by rw [cellsB_len, HFU.out.1.1]; kernel_rfl) ?_
    go_wp2_with (with_reducible (show wpList _ _ _ (Oper.mk _ (Op.load 41 _) _ _ _ _ :: _) _ _); refine pause ?_)
    unfold Paused
    refine wpList_mid_w (by rfl) 41 (.tmp 44) (by rfl) gx 33 (by rfl) _ _ (up_rng_new HFU.out HXa.out) Tryz.underlying41 (by rfl) (by rw [cellsB_len, HFU.out.2.1]; kernel_rfl) ?_
    go_wp2_with (with_reducible (show wpList _ _ _ (Oper.mk _ (Op.build 92 _) _ _ _ _ :: _) _ _); refine pause ?_)
    unfold Paused
    refine wpList_buildK (by rfl) 92 _ (by rfl) _ (by kernel_rfl) _ (rup_built u HFU.out) ?_
    go_wp2_with (with_reducible (show wpList _ _ _ (Oper.mk _ (Op.buildSlice _ _ _) _ _ _ _ :: _) _ _); refine pause ?_)
    unfold Paused
    refine wpList_buildSliceK (by rfl) 56 92 1 _ (by rfl) (cellsU1 u).toArray ip (.agg (cellsU1 ⟨⟨#[]⟩, List.replicate 32 0, List.replicate 32 0⟩).toArray) Tryz.underlying56 HIP.out.1 HIP.out.2.1 (by rw [HIP.out.2.2.1]; decide) (by rw [HIP.out.2.2.1]; decide) _ (by kernel_rfl) (by rw [HIP.out.2.2.1]; exact fill_one 65 (Value.agg (cellsU1 ⟨⟨#[]⟩, List.replicate 32 0, List.replicate 32 0⟩).toArray).cells _ (cellsU1_len HFU.out) (by rfl)) ?_
    have hbb : Below wa.heap.size wa (wa.alloc (.cells (cellsU1 u).toArray 92)) := (Below.refl _ _).alloc (Nat.le_refl _) _
    have HWb := Lib.hid (HWa.out.below hbb)
    have HXb := Lib.hid (Blk.new wa 92 (cellsU1 u).toArray)
    clear hbb HWa
    generalize wa.alloc (.cells (cellsU1 u).toArray 92) = wb at HWb HXb ⊢
    generalize wa.heap.size = gs at HXb ⊢
    go_wp2_with (with_reducible (show wpList _ _ _ (Oper.mk _ (Op.call (Call.mk (Callee.builtin Builtin.append) _ _)) _ _ _ _ :: _) _ _); refine pause ?_)
    unfold Paused
    refine wpList_append_own wb (by rfl) (.tmp 39) (.tmp 47) 56 (by rfl) (g2 + 1) 92 ip _ 65 80 Tryz.underlying56 HIP.out.1 HIP.out.2.1 HIP.out.2.2.1 HIP.out.2.2.2 (by rfl) (by decide) _ k _ (by rfl) HWb.out.own ⟨gs, 0, none⟩ 1 1 (cellsU1 u) (by rfl) (by rw [cellsU1_len HFU.out]) (fun j u hj => by rw [Addr.add_mid, Nat.zero_add, HXb.out.cell j]; simpa using hj) (fun x hx => by have h1 := cellsU1_one u; rw [Array.all_eq_true_iff_forall_mem] at h1; exact h1 x (by simpa using hx)) (by have := HN20.out; have := HLT.out; unfold maxLen; omega) (by have := HN20.out; have := HLT.out; omega) HWb.out.ord.2.2 ?_
    intro v' w1 hown hgrow _
    have HW1 := Lib.hid (HWb.out.grow H0.out (by rw [HTK.out, cellsU, List.flatMap_append, List.flatMap_cons, List.flatMap_nil, List.append_nil]; exact hown) hgrow)
    clear hown hgrow d0 d2 HXb HWb
    obtain ⟨vA', vc', rfl⟩ := own_slice HW1.out.own
    have d3 : w1.cell? ⟨g2, 3, none⟩ = some (.slice vA k vc) := HW1.out.r2.cell 3
    have d4 := HW1.out.r2.frozen 3
    have HW2 := Lib.hid (HW1.out.done H0.out)
    simp only [Act.put]
    go_wp2
    go_roundw
    case rel => exact ⟨k + 1, _, HLT.out, by go_num, HW2, HSM3⟩
    case measure => have h5 := HLT.out; simp [intOf]; omega
  ·obtain rfl : k = nu := by omega
   have ik : ¬ ((k : Nat) : Int) < k := by omega
   have HF : Hid (En.few e = true) := Lib.hid (by
    have h1 := HSm.out
    rw [HNU.out, List.take_length] at h1
    unfold En.few
    rw [HLG.out, decide_eq_true (by rw [← HNU.out]; exact HN20.out), List.all_eq_true.2 (fun u hu => decide_eq_true (h1 u hu))]
    rfl)
   clear hk hlt
   go_wp2_with (with_reducible (show wpList _ _ _ (Oper.mk _ (Op.load 58 _) _ _ _ _ :: _) _ _); refine pause ?_)
   unfold Paused
   refine wpList_row_w (by rfl) 58 (.tmp 4) (by rfl) g2 (by rfl) 58 (ecs e (.slice vA k vc) O co) _ HWk.out.r2 (by first | exact Tryz.underlying58 | kernel_rfl) (by rfl) (rent5_load rfl) ?_
   go_wp2_with (with_reducible (show wpList _ _ _ (Oper.mk _ (Op.store 58 _ _) _ _ _ _ :: _) _ _); refine pause ?_)
   unfold Paused
   refine wpList_store_row (by rfl) 58 (.tmp 2) (.tmp 51) (by rfl) g1 (ecs e (.slice vA k vc) O co) (by rfl) (by rfl) 58 zR HWk.out.r1 (rent5_load rfl) (by rfl) (ecs_one HWk.out.own) ?_
   have HZ := Lib.hid HWk.out.res
   generalize wr.setRow g1 (ecs e (.slice vA k vc) O co) = w9 at HZ ⊢
   have HEC : Hid (EnC w9 e (ecs e (.slice vA e.ups.length vc) O co) vA vc O co ts) := Lib.hid ⟨rfl, by
     have h1 := HZ.out.2.2
     rw [HNU.out, List.take_length] at h1
     exact rdk_own h1, H0.out.fit, (H0.out.below HZ.out.2.1).objs, H0.out.txt⟩
   simp only [Act.put]
   go_wp2
   exact bodyPost_ret (v := .tuple #[.agg (ecs e (.slice vA k vc) O co), .bool true]) (results_cell_row2 rfl _ _ g1 58 (ecs e (.slice vA k vc) O co) _ _ (by rfl) (by rfl) HZ.out.1 (by first | exact Tryz.underlying58 | kernel_rfl) rfl (rent5_load rfl)) rfl ⟨HZ.out.2.1, fun _ => ⟨vA, vc, by rw [HNU.out], HEC.out⟩, fun h => (by rw [HF.out] at h; cases h)⟩
end Go.Proofs.YtgcgomdhdgjpdaaGreatDoor
