/- object.Id; zeros appended to a row of one's own; the empty row. -/
import Derived.Test.YtcnedkgadfegbaaDoorMOb30s
import Derived.Test.YtcnedkgadfegbaaDoorMShaSums
import Derived.Test.YtcnedkgadfegbaaDoorMPk1s
namespace Go.Proofs.YtcnedkgadfegbaaDoor
open Go Go.RowKit
theorem wpList_append_zerosB {ops : Array Oper} {rest : List Oper} {o : Oper} {a : Act} {w : World} {Q : Exit → Act → World → Prop} (hgd : o.guard = none) (s x : Operand)
    (ho : o.op = .call { callee := .builtin .append, args := #[s, x], argTypes := #[22, 3] }) (base : Nat) (v : Value) (ys : List Nat) (k : Nat) (hs : a.eval s = v) (hx : a.eval x = .int .i64 (k : Int)) (hown : w.ownsRow base 5 1 v ys.length (cellsB ys)) (hk : ys.length + k ≤ 1000000) (hnn : v ≠ .slice none 0 0) (hbase : base ≤ w.heap.size)
    (h : ∀ v' w', w'.ownsRow base 5 1 v' (ys ++ List.replicate k 0).length (cellsB (ys ++ List.replicate k 0)) → w.grownBy w' v.ownBlock → wpList Tryd.prog ops Q rest (a.put o.dst v') w') : wpList Tryd.prog ops Q (o :: rest) a w := by
  obtain ⟨v', w', hr, h1, h2⟩ := append_zerosB base v ys k o.type w hown hk hnn hbase
  refine wpList_plain hgd fun K hK => ?_
  unfold Oper.wp execOp
  simp only [ho, resolve, invoke, builtin, Sem.run_bind, Sem.run_pure, Result.andThen_ok, List.map_toArray, List.map_cons, List.map_nil, hs, hx, hr]
  exact hK _ _ (h v' w' h1 h2)
/-- the empty row that 'T{}' makes -/
theorem own_empty (w : World) (base : Nat) (h : base ≤ w.heap.size) : (w.alloc (.cells #[] 5)).ownsRow base 5 1 (.slice (some ⟨w.heap.size, 0, none⟩) 0 0) 0 (cellsB []) :=
  ⟨rfl, .inr ⟨w.heap.size, 0, #[], rfl, h, heap_alloc_new w _, Nat.le_refl _, by unfold maxLen; omega, rfl, rfl⟩⟩
theorem own_some {w : World} {base : Nat} {n : Nat} {v : Value} {cs : List Value} (h : w.ownsRow base 5 1 v n cs) (hn : 0 < n) : v ≠ .slice none 0 0 := fun e => by
  rcases h.2 with ⟨_, h0⟩ | ⟨g, cap, cur, hv, _⟩
  · omega
  · rw [e] at hv; cases hv
set_option maxRecDepth 100000 in
set_option maxHeartbeats 1000000 in
theorem oid_any (xs : List Nat) (v : Value) (w : World) (hv : Rd w v xs) (hb : Sha.Byte xs) (ht : Tabs w) (hz : xs.length ≤ 549755813888) :
    Calls Tryd.prog 38 #[v] w fun e w' => e = .returned (.agg (u8s (Sha.sum xs))) ∧ Below w.heap.size w w' := by
  have hv0 := hv
  obtain ⟨A, c, rfl, _⟩ := hv0
  obtain ⟨w1, hw1⟩ : ∃ w1, w1 = w.alloc (.cells (u8s (List.replicate 32 0)) 34) := ⟨_, rfl⟩
  obtain ⟨w2, hw2⟩ : ∃ w2, w2 = w1.alloc (.cells #[.slice A xs.length c] 22) := ⟨_, rfl⟩
  have B1 : Below w.heap.size w w1 := hw1 ▸ (Below.refl _ _).alloc (Nat.le_refl _) _
  have s1 : w1.heap.size = w.heap.size + 1 := by rw [hw1]; simp
  have B2 : Below w.heap.size w w2 := by rw [hw2]; exact B1.alloc (by omega) _
  have N2 : Blk w2 w1.heap.size 22 #[.slice A xs.length c] := hw2 ▸ Blk.new w1 _ _
  have R2 : Blk w2 w.heap.size 34 (u8s (List.replicate 32 0)) := by rw [hw2, hw1]; exact (Blk.new w _ _).alloc _
  have CS := sum_any (.slice (some ⟨w1.heap.size, 0, none⟩) 1 1) [.slice A xs.length c] [xs] w2 ⟨_, _, rfl, Nat.le_refl _, fun _ => ⟨_, _, rfl, N2.lt, fun i u hi => by rw [Nat.zero_add]; exact (N2.cell i).trans (by simpa using hi)⟩⟩ rfl
    (fun i u hi => by
      rcases i with _ | i
      · obtain rfl : Value.slice A xs.length c = u := by simpa using hi
        exact hv.below B2 (Nat.le_refl _)
      · simp at hi)
    (fun ps hp => by rw [List.mem_singleton.1 hp]; exact hb) (ht.below B2 (Nat.le_refl _)) (by simp) (fun ps hp => by rw [List.mem_singleton.1 hp]; exact hz)
  rw [show ([xs] : List (List Nat)).flatten = xs by simp] at CS
  have HB2 := Lib.hid B2
  have HR2 := Lib.hid R2
  have HL := Lib.hid (show (u8s (Sha.sum xs)).size = 32 by rw [u8s_size]; exact Sha.join_len _)
  have e1 := hw1.symm
  have e2 := hw2.symm
  rw [s1] at CS
  clear B1 B2 N2 R2 hv hb ht hw1 hw2 s1
  go_enter Tryd.func38, Tryd.ntmps38
  go_wp2_with (go_at_call 58; refine pause ?_)
  unfold Paused
  change Calls _ _ _ ((w.alloc (.cells (u8s (List.replicate 32 0)) 34)).alloc (.cells #[.slice A xs.length c] 22)) _
  rw [e1, e2]
  refine CS.mono ?_
  rintro e w3 ⟨rfl, hb3⟩
  have HR3 := Lib.hid (HR2.out.below hb3 HR2.out.lt)
  have HB3 := Lib.hid (below_next HB2.out hb3)
  clear hb3 CS
  go_wp2_with (first | (refine wpList_store_row rfl 34 (.tmp 2) (.tmp 5) rfl w.heap.size _ rfl rfl 34 _ HR3.out (by rw [HL.out]; exact oid_info) (by rw [HL.out]; rfl) (u8s_one _) ?_))
  exact bodyPost_ret (v := .agg (u8s (Sha.sum xs))) (results_cell_row rfl _ _ w.heap.size 34 _ (0, 0) _ rfl (HR3.out.row _) Tryd.underlying34 rfl (by rw [HL.out]; exact oid_info)) rfl ⟨rfl, below_row HB3.out (Nat.le_refl _) _⟩
end Go.Proofs.YtcnedkgadfegbaaDoor
/- Items in memory; what is known, found by its id (finder's function). -/
namespace Go.Proofs.YtcnedkgadfegbaaDoor
open Go Go.RowKit
namespace Pk
/-- an item, and the value of its text -/
structure It where
  text : List Nat
  depth : Nat
  val : Value
def It.item (p : It) : Item := (p.text, p.depth)
noncomputable def fnd (l : List It) (id : List Nat) : Option It := l.foldl (fun o p => if id = Sha.sum p.text then some p else o) none
theorem fnd_snoc (l : List It) (p : It) (id : List Nat) : fnd (l ++ [p]) id = if id = Sha.sum p.text then some p else fnd l id := by
  unfold fnd; rw [List.foldl_append]; rfl
theorem fnd_nil (id : List Nat) : fnd [] id = none := rfl
theorem fnd_item_from (id : List Nat) : ∀ (l : List It) (o : Option It), (l.foldl (fun o p => if id = Sha.sum p.text then some p else o) o).map It.item = (l.map It.item).foldl (fun (o : Option Item) p => if id = Sha.sum p.1 then some p else o) (o.map It.item)
  | [], _ => rfl
  | p :: l, o => by
    rw [List.foldl_cons, fnd_item_from id l, List.map_cons, List.foldl_cons]
    congr 1
    show Option.map It.item (if id = Sha.sum p.text then some p else o) = if id = Sha.sum p.text then some p.item else o.map It.item
    split <;> rfl
theorem fnd_item (l : List It) (id : List Nat) : (fnd l id).map It.item = find (l.map It.item) id := fnd_item_from id l none
theorem fnd_mem_from (id : List Nat) : ∀ (l : List It) (o : Option It) (p : It), l.foldl (fun o p => if id = Sha.sum p.text then some p else o) o = some p → p ∈ l ∧ id = Sha.sum p.text ∨ o = some p
  | [], _, _, h => Or.inr h
  | q :: l, o, p, h => by
    rw [List.foldl_cons] at h
    rcases fnd_mem_from id l _ p h with ⟨h1, h2⟩ | h1
    · exact Or.inl ⟨List.mem_cons_of_mem _ h1, h2⟩
    · split at h1
      · rename_i he
        cases h1
        exact Or.inl ⟨List.mem_cons_self .., he⟩
      · exact Or.inr h1
theorem fnd_mem {l : List It} {id : List Nat} {p : It} (h : fnd l id = some p) : p ∈ l ∧ id = Sha.sum p.text := by
  rcases fnd_mem_from id l none p h with h | h
  · exact h
  · cases h
end Pk
def itemC (id : List Nat) (v : Value) (d : Nat) : List Value := cellsB id ++ [v, .int .i64 (d : Int)]
/-- an item's value -/
noncomputable def Pk.It.v (p : Pk.It) : Value := .agg (itemC (Sha.sum p.text) p.val p.depth).toArray
def zItem : Value := .agg (itemC zid nilV 0).toArray
theorem sum_id (t : List Nat) : Id32 (Sha.sum t) := ⟨Sha.join_len _, Sha.join_byte _⟩
theorem itemC_len {id : List Nat} (h : Id32 id) (v : Value) (d : Nat) : (itemC id v d).length = 34 := by
  unfold itemC
  rw [List.length_append, cellsB_len, h.1]
  rfl
theorem itemC_one {id : List Nat} {v : Value} (hv : v.oneCell' = true) (d : Nat) : (itemC id v d).toArray.all (·.oneCell') = true := by
  unfold itemC
  simp only [List.all_toArray, List.all_append, List.all_cons, List.all_nil, Bool.and_true]
  rw [hv]
  simp only [Bool.true_and]
  have h := u8s_one id
  unfold u8s at h
  rw [List.all_toArray] at h
  unfold cellsB
  rw [h]
  rfl
theorem item_under : Tryd.prog.underlying 46 = some (.struct (Tryd.prog.fieldsOf 46)) := by kernel_rfl
theorem item_places : (Tryd.prog.fieldsOf 46).toList.mapM (fun f => (Tryd.prog.info? f.type).map fun i => (f.offset, i.size)) = some [(0, 32), (32, 1), (33, 1)] := by kernel_rfl
theorem item_zero : ((Tryd.prog.info? 46).bind (·.zero)).map (·.cells) = some (itemC zid nilV 0).toArray := by kernel_rfl
theorem item_size : (Tryd.prog.info? 46).map (·.size) = some 34 := by kernel_rfl
theorem item_built {id : List Nat} (h : Id32 id) (v : Value) (hv : v.cells = [v].toArray) : Tryd.prog.built 46 [(0, .agg (u8s id)), (1, v)] = some (itemC id v 0).toArray := by
  rw [built_of item_under item_zero item_places]
  have e1 := fill_part (fun i => ([(0, 32), (32, 1), (33, 1)] : List (Nat × Nat)).toArray[i]?) 0 0 32 (.agg (u8s id)) [(1, v)] (cellsB id) (cellsB zid) [] [nilV, .int .i64 0] rfl rfl (by rw [cellsB_len, h.1]) (by rw [cellsB_len]; rfl) rfl
  have e2 := fill_part (fun i => ([(0, 32), (32, 1), (33, 1)] : List (Nat × Nat)).toArray[i]?) 1 32 1 v [] [v] [nilV] (cellsB id) [.int .i64 0] rfl hv rfl rfl (by rw [cellsB_len, h.1])
  have e3 : cellsB id ++ [nilV] ++ [Value.int .i64 0] = [] ++ cellsB id ++ [nilV, .int .i64 0] := by simp
  have e4 : cellsB id ++ [v] ++ [Value.int .i64 0] = itemC id v 0 := by simp [itemC]
  rw [e3, e4] at e2
  exact e1.trans e2
theorem item_empty : Tryd.prog.built 46 [] = some (itemC zid nilV 0).toArray := by
  rw [built_of item_under item_zero item_places]
  exact fill_done _ _
theorem zeroItem (w : World) : (zeroValue 46).run Tryd.prog w = .ok zItem w := by kernel_rfl
/-- What is known: its variable, its texts. -/
structure KnS (w0 w : World) (bK : Nat) (kn : List Pk.It) : Prop where
  box : ∃ A c, Blk w bK 23 #[.slice A kn.length c] ∧ RdL w0 (.slice A kn.length c) (kn.map (·.val))
  rd : ∀ p ∈ kn, Rd w0 p.val p.text ∧ Sha.Byte p.text ∧ p.depth = 0 ∧ p.text.length ≤ 1000
  few : kn.length ≤ 100
theorem KnS.kpt {w0 w w' : World} {bK : Nat} {kn : List Pk.It} (h : KnS w0 w bK kn) {S : Nat → Prop} (k : Kpt S w w') (hS : ¬ S bK) : KnS w0 w' bK kn := by
  obtain ⟨⟨A, c, h1, h2⟩, h3, h4⟩ := h
  exact ⟨⟨A, c, k.blk h1 hS, h2⟩, h3, h4⟩
/-- What is known by id: not yet reckoned, or a map of it. -/
def ByS (w : World) (bB : Nat) (kn : List Pk.It) : Prop :=
  Blk w bB 50 #[.map none] ∨ ∃ m n, Blk w bB 50 #[.map (some m)] ∧ bB < m ∧ MapO w m n (fun id => (Pk.fnd kn id).map Pk.It.v)
theorem ByS.kpt {w w' : World} {bB : Nat} {kn : List Pk.It} (h : ByS w bB kn) {S : Nat → Prop} (k : Kpt S w w') (hS : ∀ x, bB ≤ x → ¬ S x) : ByS w' bB kn := by
  rcases h with h | ⟨m, n, h1, h2, h3⟩
  · exact Or.inl (k.blk h (hS bB (Nat.le_refl _)))
  · exact Or.inr ⟨m, n, k.blk h1 (hS bB (Nat.le_refl _)), h2, h3.block (k.block m h3.lt (hS m (Nat.le_of_lt h2)))⟩
theorem kpt_none {w w' : World} (h : Kpt (fun _ => False) w w') (S : Nat → Prop) : Kpt S w w' := ⟨h.os, h.tape, h.output, h.size, fun b hb _ => h.block b hb (fun h => h)⟩
theorem kpt_of {S : Nat → Prop} {w w' : World} (h : Below w.heap.size w w') : Kpt S w w' := Kpt.of_below h
theorem slice_one (A : Option Addr) (n c : Nat) : (Value.slice A n c).cells = [Value.slice A n c].toArray := rfl
theorem oid_load : (Tryd.prog.info? 34).map (·.size) = some 32 := by kernel_rfl
theorem fv_agg (l : List Pk.It) (id : List Nat) (hv : ∀ p ∈ l, p.val.oneCell' = true) : ∃ cs : Array Value, ((Pk.fnd l id).map Pk.It.v).getD zItem = .agg cs ∧ cs.size = 34 ∧ cs.all (·.oneCell') = true := by
  cases h : Pk.fnd l id with
  | none => exact ⟨_, rfl, by rw [List.size_toArray, itemC_len zid_id], itemC_one rfl 0⟩
  | some p => exact ⟨_, rfl, by rw [List.size_toArray, itemC_len (sum_id _)], itemC_one (hv p (Pk.fnd_mem h).1) _⟩
theorem resultsP {fn : Func} {t : Tmp} (hr : fn.results = #[.cell t 46]) {tmps : Array Value} {W : World} {g : Nat} {cs : Array Value} (h4 : tmps.getD t undef = .pointer (some ⟨g, 0, none⟩)) (hb : Blk W g 46 cs) (hs : cs.size = 34) :
    (results fn tmps).run Tryd.prog W = .ok (.agg cs) W := by
  have hl : (loadVar 46 ⟨g, 0, none⟩).run Tryd.prog W = .ok (.agg cs) W := run_loadVar_row W g 46 46 cs (0, 0) _ hb Tryd.underlying46 (by rfl) (by rw [hs]; exact item_size)
  simp only [Array.getD_eq_getD_getElem?] at h4
  simp [results, hr, h4, asAddr, hl]
theorem resultsP2 {fn : Func} {t s : Tmp} (hr : fn.results = #[.cell t 46, .tmp s]) {tmps : Array Value} {W : World} {g : Nat} {cs : Array Value} (h4 : tmps.getD t undef = .pointer (some ⟨g, 0, none⟩)) (hb : Blk W g 46 cs) (hs : cs.size = 34) :
    (results fn tmps).run Tryd.prog W = .ok (.tuple #[.agg cs, tmps.getD s undef]) W := by
  have hl : (loadVar 46 ⟨g, 0, none⟩).run Tryd.prog W = .ok (.agg cs) W := run_loadVar_row W g 46 46 cs (0, 0) _ hb Tryd.underlying46 (by rfl) (by rw [hs]; exact item_size)
  simp only [Array.getD_eq_getD_getElem?] at h4 ⊢
  simp [results, hr, h4, asAddr, hl]
end Go.Proofs.YtcnedkgadfegbaaDoor
/- What is known, found by its id: the finder's function. -/
namespace Go.Proofs.YtcnedkgadfegbaaDoor
open Go Go.RowKit
theorem map_some (m : Nat) (w : World) : (binOp .eql 50 (.map (some m)) (.map none)).run Tryd.prog w = .ok (.bool false) w := by kernel_rfl
theorem map_none (w : World) : (binOp .eql 50 (.map none) (.map none)).run Tryd.prog w = .ok (.bool true) w := by kernel_rfl
set_option maxRecDepth 100000 in
set_option maxHeartbeats 2000000 in
theorem find1_has (bB bK m n : Nat) (kn : List Pk.It) (id : List Nat) (w : World) (hB : Blk w bB 50 #[.map (some m)]) (hM : MapO w m n (fun id => (Pk.fnd kn id).map Pk.It.v)) (hv : ∀ p ∈ kn, p.val.oneCell' = true) (hid : Id32 id) :
    Calls Tryd.prog 37 #[.agg (u8s id), .pointer (some ⟨bB, 0, none⟩), .pointer (some ⟨bK, 0, none⟩)] w fun e w' => e = .returned (.tuple #[((Pk.fnd kn id).map Pk.It.v).getD zItem, .bool (Pk.fnd kn id).isSome]) ∧ Below w.heap.size w w' := by
  obtain ⟨w2, hw2⟩ : ∃ w2, w2 = (w.alloc (.cells (u8s id) 34)).alloc (.cells (itemC zid nilV 0).toArray 46) := ⟨_, rfl⟩
  have b2 : Below w.heap.size w w2 := hw2 ▸ ((Below.refl _ _).alloc (Nat.le_refl _) _).alloc (by simp) _
  have HI : Hid (Blk w2 w.heap.size 34 (u8s id)) := Lib.hid (hw2 ▸ (Blk.new w _ _).alloc _)
  have HZ : Hid (Blk w2 (w.heap.size + 1) 46 (itemC zid nilV 0).toArray) := Lib.hid (by rw [hw2]; have h := Blk.new (w.alloc (.cells (u8s id) 34)) 46 (itemC zid nilV 0).toArray; rwa [World.size_alloc] at h)
  have p0 : w2.cell? ⟨bB, 0, none⟩ = some (.map (some m)) := (hB.below b2 hB.lt).cell 0
  have q0 := (hM.below b2).look_ok Tryd.underlying50 (zeroItem w2) hid
  obtain ⟨cs, hcs, hc34, hc1⟩ := fv_agg kn id hv
  rw [hcs] at q0 ⊢
  rw [Option.isSome_map] at q0
  generalize (Pk.fnd kn id).isSome = has at q0 ⊢
  have HL := Lib.hid hid.1
  have HB2 := Lib.hid b2
  have HC := Lib.hid hc34
  have H1 := Lib.hid hc1
  have e2 := hw2.symm
  have em := map_some m
  have s2 : w.heap.size + 2 ≤ w2.heap.size := by rw [hw2]; simp
  clear hB hM hid hw2 hcs hc34 hc1 hv b2
  go_enter Tryd.func37, Tryd.ntmps37
  go_wp2_with (with_reducible (show wpList _ _ _ (Oper.mk _ (Op.load 50 _) _ _ _ _ :: _) _ _); refine pause ?_)
  unfold Paused
  change wpList _ _ _ _ _ ((w.alloc (.cells (u8s id) 34)).alloc (.cells (itemC zid nilV 0).toArray 46))
  rw [e2]
  go_wp2_with (with_reducible (show wpList _ _ _ (Oper.mk _ (Op.load 34 _) _ _ _ _ :: _) _ _); refine pause ?_)
  unfold Paused
  refine wpList_row_w (by rfl) 34 (.tmp 3) (by rfl) w.heap.size (by rfl) 34 (u8s id) _ HI.out Tryd.underlying34 (by rfl) (by rw [u8s_size, HL.out]; exact oid_load) ?_
  go_wp2_with (with_reducible (show wpList _ _ _ (Oper.mk _ (Op.store 46 _ _) _ _ _ _ :: _) _ _); refine pause ?_)
  unfold Paused
  change wpList _ _ _ _ _ (w2.alloc (.cells (itemC zid nilV 0).toArray 46))
  refine wpList_store_row (by rfl) 46 (.tmp 9) (.tmp 35) (by rfl) w2.heap.size cs (by rfl) (by rfl) 46 (itemC zid nilV 0).toArray (Blk.new w2 _ _) (by rw [HC.out]; exact item_size) (by rw [HC.out]; rfl) H1.out ?_
  have HB3 : Hid (Below w2.heap.size w2 ((w2.alloc (.cells (itemC zid nilV 0).toArray 46)).setRow w2.heap.size cs)) := Lib.hid (below_row ((Below.refl _ _).alloc (Nat.le_refl _) _) (Nat.le_refl _) cs)
  have HX3 : Hid (Blk ((w2.alloc (.cells (itemC zid nilV 0).toArray 46)).setRow w2.heap.size cs) w2.heap.size 46 cs) := Lib.hid ((Blk.new w2 _ _).row cs)
  have HZ3 := Lib.hid (HZ.out.below HB3.out HZ.out.lt)
  have HB3' := Lib.hid (below_next HB2.out HB3.out)
  generalize (w2.alloc (.cells (itemC zid nilV 0).toArray 46)).setRow w2.heap.size cs = w3 at HX3 HZ3 HB3' ⊢
  clear HB3 q0 p0
  generalize w2.heap.size = g9 at HX3 s2 ⊢
  simp only [Act.put]
  go_wp2_with (with_reducible (show wpList _ _ _ (Oper.mk _ (Op.load 46 _) _ _ _ _ :: _) _ _); refine pause ?_)
  unfold Paused
  refine wpList_row_w (by rfl) 46 (.tmp 9) (by rfl) g9 (by rfl) 46 cs _ HX3.out Tryd.underlying46 (by rfl) (by rw [HC.out]; exact item_size) ?_
  go_wp2_with (with_reducible (show wpList _ _ _ (Oper.mk _ (Op.store 46 _ _) _ _ _ _ :: _) _ _); refine pause ?_)
  unfold Paused
  refine wpList_store_row (by rfl) 46 (.tmp 4) (.tmp 37) (by rfl) (w.heap.size + 1) cs (by rfl) (by rfl) 46 (itemC zid nilV 0).toArray HZ3.out (by rw [HC.out]; exact item_size) (by rw [HC.out]; rfl) H1.out ?_
  have HX4 := Lib.hid (HZ3.out.row cs)
  have HB4 : Hid (Below w.heap.size w (w3.setRow (w.heap.size + 1) cs)) := Lib.hid (below_row HB3'.out (by omega) cs)
  generalize w3.setRow (w.heap.size + 1) cs = w4 at HX4 HB4 ⊢
  simp only [Act.put]
  go_wp2
  exact bodyPost_ret (v := .tuple #[.agg cs, .bool has]) (resultsP2 (t := 4) (s := 5) rfl (by rfl) HX4.out HC.out) rfl ⟨rfl, HB4.out⟩
end Go.Proofs.YtcnedkgadfegbaaDoor
