/- object.read of any bytes; object.Parse. -/
import Derived.Test.YtolfphfdeccleaaGreatDoorMOb29
import Derived.Test.YtolfphfdeccleaaGreatDoorMHelds
import Derived.Lib.AppendZerosOnto
import Derived.Test.YtolfphfdeccleaaGreatDoorMShaEnds
import Derived.Test.YtolfphfdeccleaaGreatDoorMDl6s
import Derived.Test.YtolfphfdeccleaaGreatDoorMMapOs
namespace Go.Proofs.YtolfphfdeccleaaGreatDoor
open Go Go.RowKit
theorem oread_any (i r : Nat) (xs : List Nat) (a : Nat → Addr) (w0 w : World) (h : InAt w0 w i r xs) (hb : Oc.bytes xs) (hz : xs.length ≤ 300) (hS : PSents w0 a) :
    Calls Tryz.prog 87 #[.pointer (some ⟨i, 0, none⟩)] w fun e w' => ReadPost xs a w0 w i r e w' := by
  obtain _ | ⟨c, ys⟩ := xs
  · exact oread_nil i r a w0 w h hS
  · by_cases h1 : c = 98
    · subst h1; exact oread_blob i r ys a w0 w h hb hz hS
    · by_cases h2 : c = 116
      · subst h2; exact oread_tree i r ys a w0 w h hb hz hS
      · by_cases h3 : c = 99
        · subst h3
          rcases Nat.lt_trichotomy ys.length 32 with h4 | h4 | h4
          · exact oread_commit0 i r ys a w0 w h hb hz hS h4
          · exact oread_commit1 i r ys a w0 w h hb hz hS h4
          · exact oread_commit i r ys a w0 w h hb hz hS h4
        · by_cases h4 : c = 103
          · subst h4
            rcases Nat.lt_or_ge ys.length 32 with h5 | h5
            · exact oread_tag0 i r ys a w0 w h hb hz hS h5
            · exact oread_tag i r ys a w0 w h hb hz hS h5
          · exact oread_kind i r c ys a w0 w h hb hz hS h1 h2 h3 h4
theorem ObO.up {m g : Nat} {w w' : World} {o : Ob} {cs : Array Value} {T E P : Option Addr} {tc ec pc : Nat} (h : ObO g w o cs T tc E ec P pc) (hm : m < g) (hg : w.grownBy w' (some m)) : ObO m w' o cs T tc E ec P pc :=
  ⟨h.cells, own_low (h.text.kept hg (own_far h.text hm)) (by omega), own_low (h.ents.kept hg (own_far h.ents hm)) (by omega), own_low (h.pars.kept hg (own_far h.pars hm)) (by omega)⟩
theorem obj_empty : Tryz.prog.built 145 [] = some zOc := by
  rw [built_of iobj_under obj_zero obj_places, zOc_cells]
  exact fill_done _ _
theorem read_enters (args : Array Value) (w : World) : (callFunc 87 args).run Tryz.prog w = .ok (.enter 87 args) w := by kernel_rfl
set_option maxRecDepth 100000 in
theorem oparse_ok (o : Ob) (xs : List Nat) (a : Nat → Addr) (v : Value) (w : World) (hv : Rd w v xs) (hb : Oc.bytes xs) (hz : xs.length ≤ 300) (hS : PSents w a) (hp : Ob.parse xs = .ok o) :
    Calls Tryz.prog 70 #[v] w fun e w' => ∃ cs T tc E ec P pc, e = .returned (.tuple #[.agg cs, .nilIface]) ∧ o.Fit ∧ o.Held ∧ ObO w.heap.size w' o cs T tc E ec P pc ∧ Below w.heap.size w w' := by
  have hv0 := hv
  obtain ⟨A, c, rfl, _⟩ := hv0
  have hwa : Below w.heap.size w (w.alloc (.cells zOc 145)) := (Below.refl _ _).alloc (Nat.le_refl _) _
  have CT := takeO_ok 87 #[] w (w.alloc (.cells zOc 145)) A xs.length c xs (fun m cs w' => ∃ T tc E ec P pc, o.Fit ∧ o.Held ∧ ObO m w' o cs T tc E ec P pc) read_enters hwa hv
    (fun w2 i r _ _ hi _ => (oread_any i r xs a w w2 hi hb hz hS).mono fun e w' hq => by
      obtain ⟨cs, T, tc, E, ec, P, pc, he, h1, h2, h3, h4, h5⟩ := hq.2 o hp
      refine ⟨cs, he, ?_, h3.one, h4, h5, T, tc, E, ec, P, pc, h1, h2, h3⟩
      rw [h3.cells, cellsOb_size _ _ _ _ _ h1.target.1])
    (fun m cs x y ⟨T, tc, E, ec, P, pc, h1, h2, h3⟩ hk => ⟨T, tc, E, ec, P, pc, h1, h2, h3.kept hk⟩)
  have HWA := Lib.hid hwa
  have i1 : ¬ ((xs.length : Int) > 300) := by omega
  clear hwa hv hb hz hS hp
  go_enter Tryz.func70, Tryz.ntmps70
  go_wp2_with (go_at_call 86; refine pause ?_)
  unfold Paused
  change Calls _ _ _ (w.alloc (.cells zOc 145)) _
  refine CT.mono ?_
  rintro e w3 ⟨cs, m, rfl, hs, hm, ⟨T, tc, E, ec, P, pc, hf, hd, ho⟩, hb3⟩
  have HM : Hid (w.heap.size < m) := Lib.hid (by have h := hm; simp at h; omega)
  have HS3 := Lib.hid hs
  have HF := Lib.hid hf
  have HD := Lib.hid hd
  have HO := Lib.hid ho
  have HB3 : Hid (Below w.heap.size w w3) := Lib.hid (HWA.out.trans (hb3.mono (by simp)))
  have HZ3 : Hid (Blk w3 w.heap.size 145 zOc) := Lib.hid ((Blk.new w 145 zOc).below hb3 (by simp))
  clear hs hf hd ho hb3 hm CT
  go_wp2_with (with_reducible (show wpList _ _ _ (Oper.mk _ (Op.store 145 _ _) _ _ _ _ :: _) _ _); refine pause ?_)
  unfold Paused
  refine wpList_store_row (by rfl) 145 (.tmp 2) (.tmp 11) (by rfl) w.heap.size cs (by rfl) (by rfl) 145 zOc HZ3.out (by rw [HS3.out]; kernel_rfl) (by rw [HS3.out]; rfl) (ObO.one HO.out) ?_
  have HR := Lib.hid (HZ3.out.row cs)
  have HG : Hid (w3.grownBy (w3.setRow w.heap.size cs) (some w.heap.size)) := Lib.hid (only_setRow (World.grownBy.refl w3 _) (Or.inl rfl) _)
  have HB : Hid (Below w.heap.size w (w3.setRow w.heap.size cs)) := Lib.hid (below_row HB3.out (Nat.le_refl _) _)
  generalize w3.setRow w.heap.size cs = w4 at HR HG HB ⊢
  go_wp2
  exact bodyPost_ret (v := .tuple #[.agg cs, .nilIface]) (resultsO2 (t := 2) (s := 3) rfl (by rfl) HR.out HS3.out) rfl ⟨cs, T, tc, E, ec, P, pc, rfl, HF.out, HD.out, HO.out.up HM.out HG.out, HB.out⟩
set_option maxRecDepth 100000 in
theorem oparse_bad (n : Nat) (xs : List Nat) (a : Nat → Addr) (v : Value) (w : World) (hv : Rd w v xs) (hb : Oc.bytes xs) (hz : xs.length ≤ 300) (hS : PSents w a) (hp : Ob.parse xs = .bad n) :
    Calls Tryz.prog 70 #[v] w fun e w' => e = .returned (.tuple #[.agg zOc, ev (a (n - 1))]) ∧ Below w.heap.size w w' := by
  have hv0 := hv
  obtain ⟨A, c, rfl, _⟩ := hv0
  have hwa : Below w.heap.size w (w.alloc (.cells zOc 145)) := (Below.refl _ _).alloc (Nat.le_refl _) _
  have CT := takeO_bad 87 #[] w (w.alloc (.cells zOc 145)) A xs.length c xs (a (n - 1)) read_enters hwa hv
    (fun w2 i r _ _ hi _ => (oread_any i r xs a w w2 hi hb hz hS).mono fun e w' hq => hq.1 n hp)
  have HWA := Lib.hid hwa
  have i1 : ¬ ((xs.length : Int) > 300) := by omega
  clear hwa hv hb hz hS hp
  go_enter Tryz.func70, Tryz.ntmps70
  go_wp2_with (go_at_call 86; refine pause ?_)
  unfold Paused
  change Calls _ _ _ (w.alloc (.cells zOc 145)) _
  refine CT.mono ?_
  rintro e w3 ⟨rfl, hb3⟩
  have HB3 : Hid (Below w.heap.size w w3) := Lib.hid (HWA.out.trans (hb3.mono (by simp)))
  have HZ3 : Hid (Blk w3 w.heap.size 145 zOc) := Lib.hid ((Blk.new w 145 zOc).below hb3 (by simp))
  clear hb3 CT
  go_wp2_with (with_reducible (show wpList _ _ _ (Oper.mk _ (Op.store 145 _ _) _ _ _ _ :: _) _ _); refine pause ?_)
  unfold Paused
  refine wpList_store_row (by rfl) 145 (.tmp 2) (.tmp 11) (by rfl) w.heap.size zOc (by rfl) (by rfl) 145 zOc HZ3.out (by kernel_rfl) (by rfl) (by kernel_rfl) ?_
  have HR := Lib.hid (HZ3.out.row zOc)
  have HB : Hid (Below w.heap.size w (w3.setRow w.heap.size zOc)) := Lib.hid (below_row HB3.out (Nat.le_refl _) _)
  generalize w3.setRow w.heap.size zOc = w4 at HR HB ⊢
  go_wp2
  exact bodyPost_ret (v := .tuple #[.agg zOc, ev (a (n - 1))]) (resultsO2 (t := 2) (s := 3) rfl (by rfl) HR.out (by kernel_rfl)) rfl ⟨rfl, HB.out⟩
set_option maxRecDepth 100000 in
theorem oparse_large (aG : Addr) (xs : List Nat) (v : Value) (w : World) (hv : Rd w v xs) (hz : 300 < xs.length) (hS : w.cell? ⟨12, 0, none⟩ = some (ev aG)) :
    Calls Tryz.prog 70 #[v] w fun e w' => e = .returned (.tuple #[.agg zOc, ev aG]) ∧ Below w.heap.size w w' := by
  obtain ⟨A, c, rfl, _⟩ := hv
  have hm : Tryz.prog.follows .mixedOrders = true := by kernel_rfl
  obtain ⟨w6, hw6⟩ : ∃ w6, w6 = w.alloc (.cells zOc 145) := ⟨_, rfl⟩
  have HWA : Hid (Below w.heap.size w w6) := Lib.hid (hw6 ▸ (Below.refl _ _).alloc (Nat.le_refl _) _)
  have HZ6 : Hid (Blk w6 w.heap.size 145 zOc) := Lib.hid (hw6 ▸ Blk.new w 145 zOc)
  have pL : w6.cell? ⟨12, 0, none⟩ = some (ev aG) := (HWA.out.cell (block_lt_of_cell hS)).trans hS
  have e2 := hw6.symm
  have i1 : (xs.length : Int) > 300 := by omega
  clear hS hz hw6
  go_enter Tryz.func70, Tryz.ntmps70
  go_wp2
  refine wp_region_held (S := fun w' => w' = w6.drew) hm ?_
  change wpAnyH _ _ _ _ _ _ _ _ (w.alloc (.cells zOc 145)).drew
  rw [e2]
  refine wpAnyH_take (i := 1) (v := ?_) rfl (by kernel_rfl) (by kernel_rfl) (by kernel_rfl) (fun _ _ _ h => h) (Or.inl ⟨by rfl, ?_⟩) rfl ?_
  rotate_left
  · rintro w' rfl; go_simp; with_reducible rfl
  try simp only [Act.put, List.getElem_toArray, List.getElem_cons_zero, List.getElem_cons_succ, List.setIfInBounds_toArray, List.set_cons_zero, List.set_cons_succ]
  refine all_one (i := 0) (by kernel_rfl) rfl (by rfl) (fun K hK => ?_)
  refine wp_buildK 145 _ (by rfl) [] (by simp) zOc obj_empty ?_
  refine hK _ _ rfl ?_
  try simp only [Act.put, List.getElem_toArray, List.getElem_cons_zero, List.setIfInBounds_toArray, List.set_cons_zero, List.set_cons_succ]
  refine all_one (i := 2) (by kernel_rfl) rfl (by rfl) (fun K hK => ?_)
  refine wp_store_row 145 (.tmp 2) (.tmp 7) (by rfl) w.heap.size zOc (by rfl) (by rfl) 145 zOc HZ6.out.drew (by kernel_rfl) (by rfl) (by kernel_rfl) ?_
  rw [setRow_self w6.drew w.heap.size zOc 145 (0, 0) HZ6.out.drew]
  refine hK _ _ rfl ?_
  try simp only [Act.put, List.getElem_toArray, List.getElem_cons_zero, List.getElem_cons_succ]
  refine all_one (i := 3) (by kernel_rfl) rfl (by rfl) (fun K hK => ?_)
  go_simp
  refine hK _ _ rfl ?_
  try simp only [Act.put, List.getElem_toArray, List.getElem_cons_zero, List.getElem_cons_succ, List.setIfInBounds_toArray, List.set_cons_zero, List.set_cons_succ]
  refine wpAnyH_done (by kernel_rfl) ?_ _
  clear pL
  go_wp2
  exact bodyPost_ret (v := .tuple #[.agg zOc, ev aG]) (resultsO2 (t := 2) (s := 3) rfl (by rfl) HZ6.out.drew (by kernel_rfl)) rfl ⟨rfl, below_drewN HWA.out 1⟩
end Go.Proofs.YtolfphfdeccleaaGreatDoor
/- An object that is right is what its bytes are parsed as; bytes that are an object are its bytes. -/
namespace Go.Proofs.YtolfphfdeccleaaGreatDoor
open Go Go.RowKit
theorem lkpars_len (ps : List (List Nat)) (h : ∀ p ∈ ps, Id32 p) : ps.flatten.length = 32 * ps.length := by
  induction ps with
  | nil => rfl
  | cons p ps ih =>
    rw [List.flatten_cons, List.length_append, (h p (List.mem_cons_self ..)).1, ih (fun x hx => h x (List.mem_cons_of_mem _ hx)), List.length_cons]
    omega
end Go.Proofs.YtolfphfdeccleaaGreatDoor
/- append(s, make([]byte, k)...) onto a row of the call's own. -/
namespace Go.Proofs.YtolfphfdeccleaaGreatDoor
open Go Go.RowKit
end Go.Proofs.YtolfphfdeccleaaGreatDoor
/- object.Id; zeros appended to a row of one's own; the empty row. -/
namespace Go.Proofs.YtolfphfdeccleaaGreatDoor
open Go Go.RowKit
set_option maxRecDepth 100000 in
set_option maxHeartbeats 1000000 in
theorem oid_any (xs : List Nat) (v : Value) (w : World) (hv : Rd w v xs) (hb : Sha.Byte xs) (ht : Tabs w) (hz : xs.length ≤ 549755813888) :
    Calls Tryz.prog 58 #[v] w fun e w' => e = .returned (.agg (u8s (Sha.sum xs))) ∧ Below w.heap.size w w' := by
  have hv0 := hv
  obtain ⟨A, c, rfl, _⟩ := hv0
  obtain ⟨w1, hw1⟩ : ∃ w1, w1 = w.alloc (.cells (u8s (List.replicate 32 0)) 49) := ⟨_, rfl⟩
  obtain ⟨w2, hw2⟩ : ∃ w2, w2 = w1.alloc (.cells #[.slice A xs.length c] 22) := ⟨_, rfl⟩
  have B1 : Below w.heap.size w w1 := hw1 ▸ (Below.refl _ _).alloc (Nat.le_refl _) _
  have s1 : w1.heap.size = w.heap.size + 1 := by rw [hw1]; simp
  have B2 : Below w.heap.size w w2 := by rw [hw2]; exact B1.alloc (by omega) _
  have N2 : Blk w2 w1.heap.size 22 #[.slice A xs.length c] := hw2 ▸ Blk.new w1 _ _
  have R2 : Blk w2 w.heap.size 49 (u8s (List.replicate 32 0)) := by rw [hw2, hw1]; exact (Blk.new w _ _).alloc _
  have CS := sum_any (.slice (some ⟨w1.heap.size, 0, none⟩) 1 1) [.slice A xs.length c] [xs] w2 ⟨_, _, rfl, Nat.le_refl _, fun _ => ⟨_, _, rfl, N2.lt, fun i u hi => by rw [Nat.zero_add]; exact (N2.cell i).trans (by simpa using hi)⟩⟩ rfl
    (fun i u hi => by
      rcases i with _ | i
      · obtain rfl : Value.slice A xs.length c = u := by simpa using hi
        exact hv.below B2 (Nat.le_refl _)
      · simp at hi)
    (fun ps hp => by rw [List.mem_singleton.1 hp]; exact hb) (ht.below B2 (Nat.le_refl _)) (by simp) (fun ps hp => by rw [List.mem_singleton.1 hp]; exact hz)
  rw [show ([xs] : List (List Nat)).flatten = xs by simp] at CS
  have HB2 := Lib.hid B2
  have HR2 := Lib.hid R2
  have HL := Lib.hid (show (u8s (Sha.sum xs)).size = 32 by rw [u8s_size]; exact Sha.join_len _)
  have e1 := hw1.symm
  have e2 := hw2.symm
  rw [s1] at CS
  clear B1 B2 N2 R2 hv hb ht hw1 hw2 s1
  go_enter Tryz.func58, Tryz.ntmps58
  go_wp2_with (go_at_call 79; refine pause ?_)
  unfold Paused
  change Calls _ _ _ ((w.alloc (.cells (u8s (List.replicate 32 0)) 49)).alloc (.cells #[.slice A xs.length c] 22)) _
  rw [e1, e2]
  refine CS.mono ?_
  rintro e w3 ⟨rfl, hb3⟩
  have HR3 := Lib.hid (HR2.out.below hb3 HR2.out.lt)
  have HB3 := Lib.hid (below_next HB2.out hb3)
  clear hb3 CS
  go_wp2_with (first | (refine wpList_store_row rfl 49 (.tmp 2) (.tmp 5) rfl w.heap.size _ rfl rfl 49 _ HR3.out (by rw [HL.out]; exact oid_info) (by rw [HL.out]; rfl) (u8s_one _) ?_))
  exact bodyPost_ret (v := .agg (u8s (Sha.sum xs))) (results_cell_row rfl _ _ w.heap.size 49 _ (0, 0) _ rfl (HR3.out.row _) Tryz.underlying49 rfl (by rw [HL.out]; exact oid_info)) rfl ⟨rfl, below_row HB3.out (Nat.le_refl _) _⟩
end Go.Proofs.YtolfphfdeccleaaGreatDoor
/- Items in memory; what is known, found by its id (finder's function). -/
namespace Go.Proofs.YtolfphfdeccleaaGreatDoor
open Go Go.RowKit
namespace Pk
/-- an item, and the value of its text -/
structure It where
  text : List Nat
  depth : Nat
  val : Value
def It.item (p : It) : Item := (p.text, p.depth)
noncomputable def fnd (l : List It) (id : List Nat) : Option It := l.foldl (fun o p => if id = Sha.sum p.text then some p else o) none
theorem fnd_snoc (l : List It) (p : It) (id : List Nat) : fnd (l ++ [p]) id = if id = Sha.sum p.text then some p else fnd l id := by
  unfold fnd; rw [List.foldl_append]; rfl
theorem fnd_item_from (id : List Nat) : ∀ (l : List It) (o : Option It), (l.foldl (fun o p => if id = Sha.sum p.text then some p else o) o).map It.item = (l.map It.item).foldl (fun (o : Option Item) p => if id = Sha.sum p.1 then some p else o) (o.map It.item)
  | [], _ => rfl
  | p :: l, o => by
    rw [List.foldl_cons, fnd_item_from id l, List.map_cons, List.foldl_cons]
    congr 1
    show Option.map It.item (if id = Sha.sum p.text then some p else o) = if id = Sha.sum p.text then some p.item else o.map It.item
    split <;> rfl
theorem fnd_item (l : List It) (id : List Nat) : (fnd l id).map It.item = find (l.map It.item) id := fnd_item_from id l none
theorem fnd_mem_from (id : List Nat) : ∀ (l : List It) (o : Option It) (p : It), l.foldl (fun o p => if id = Sha.sum p.text then some p else o) o = some p → p ∈ l ∧ id = Sha.sum p.text ∨ o = some p
  | [], _, _, h => Or.inr h
  | q :: l, o, p, h => by
    rw [List.foldl_cons] at h
    rcases fnd_mem_from id l _ p h with ⟨h1, h2⟩ | h1
    · exact Or.inl ⟨List.mem_cons_of_mem _ h1, h2⟩
    · split at h1
      · rename_i he
        cases h1
        exact Or.inl ⟨List.mem_cons_self .., he⟩
      · exact Or.inr h1
theorem fnd_mem {l : List It} {id : List Nat} {p : It} (h : fnd l id = some p) : p ∈ l ∧ id = Sha.sum p.text := by
  rcases fnd_mem_from id l none p h with h | h
  · exact h
  · cases h
end Pk
def itemC (id : List Nat) (v : Value) (d : Nat) : List Value := cellsB id ++ [v, .int .i64 (d : Int)]
/-- an item's value -/
noncomputable def Pk.It.v (p : Pk.It) : Value := .agg (itemC (Sha.sum p.text) p.val p.depth).toArray
def zItem : Value := .agg (itemC zid nilV 0).toArray
theorem sum_id (t : List Nat) : Id32 (Sha.sum t) := ⟨Sha.join_len _, Sha.join_byte _⟩
theorem itemC_len {id : List Nat} (h : Id32 id) (v : Value) (d : Nat) : (itemC id v d).length = 34 := by
  unfold itemC
  rw [List.length_append, cellsB_len, h.1]
  rfl
theorem itemC_one {id : List Nat} {v : Value} (hv : v.oneCell' = true) (d : Nat) : (itemC id v d).toArray.all (·.oneCell') = true := by
  unfold itemC
  simp only [List.all_toArray, List.all_append, List.all_cons, List.all_nil, Bool.and_true]
  rw [hv]
  simp only [Bool.true_and]
  have h := u8s_one id
  unfold u8s at h
  rw [List.all_toArray] at h
  unfold cellsB
  rw [h]
  rfl
theorem item_under : Tryz.prog.underlying 51 = some (.struct (Tryz.prog.fieldsOf 51)) := by kernel_rfl
theorem item_places : (Tryz.prog.fieldsOf 51).toList.mapM (fun f => (Tryz.prog.info? f.type).map fun i => (f.offset, i.size)) = some [(0, 32), (32, 1), (33, 1)] := by kernel_rfl
theorem item_zero : ((Tryz.prog.info? 51).bind (·.zero)).map (·.cells) = some (itemC zid nilV 0).toArray := by kernel_rfl
theorem item_size : (Tryz.prog.info? 51).map (·.size) = some 34 := by kernel_rfl
theorem item_built {id : List Nat} (h : Id32 id) (v : Value) (hv : v.cells = [v].toArray) : Tryz.prog.built 51 [(0, .agg (u8s id)), (1, v)] = some (itemC id v 0).toArray := by
  rw [built_of item_under item_zero item_places]
  have e1 := fill_part (fun i => ([(0, 32), (32, 1), (33, 1)] : List (Nat × Nat)).toArray[i]?) 0 0 32 (.agg (u8s id)) [(1, v)] (cellsB id) (cellsB zid) [] [nilV, .int .i64 0] rfl rfl (by rw [cellsB_len, h.1]) (by rw [cellsB_len]; rfl) rfl
  have e2 := fill_part (fun i => ([(0, 32), (32, 1), (33, 1)] : List (Nat × Nat)).toArray[i]?) 1 32 1 v [] [v] [nilV] (cellsB id) [.int .i64 0] rfl hv rfl rfl (by rw [cellsB_len, h.1])
  have e3 : cellsB id ++ [nilV] ++ [Value.int .i64 0] = [] ++ cellsB id ++ [nilV, .int .i64 0] := by simp
  have e4 : cellsB id ++ [v] ++ [Value.int .i64 0] = itemC id v 0 := by simp [itemC]
  rw [e3, e4] at e2
  exact e1.trans e2
theorem item_empty : Tryz.prog.built 51 [] = some (itemC zid nilV 0).toArray := by
  rw [built_of item_under item_zero item_places]
  exact fill_done _ _
theorem zeroItem (w : World) : (zeroValue 51).run Tryz.prog w = .ok zItem w := by kernel_rfl
/-- What is known: its variable, its texts. -/
structure KnS (w0 w : World) (bK : Nat) (kn : List Pk.It) : Prop where
  box : ∃ A c, Blk w bK 23 #[.slice A kn.length c] ∧ RdL w0 (.slice A kn.length c) (kn.map (·.val))
  rd : ∀ p ∈ kn, Rd w0 p.val p.text ∧ Sha.Byte p.text ∧ p.depth = 0 ∧ p.text.length ≤ 1000
  few : kn.length ≤ 100
theorem KnS.kpt {w0 w w' : World} {bK : Nat} {kn : List Pk.It} (h : KnS w0 w bK kn) {S : Nat → Prop} (k : Kpt S w w') (hS : ¬ S bK) : KnS w0 w' bK kn := by
  obtain ⟨⟨A, c, h1, h2⟩, h3, h4⟩ := h
  exact ⟨⟨A, c, k.blk h1 hS, h2⟩, h3, h4⟩
/-- What is known by id: not yet reckoned, or a map of it. -/
def ByS (w : World) (bB : Nat) (kn : List Pk.It) : Prop :=
  Blk w bB 71 #[.map none] ∨ ∃ m n, Blk w bB 71 #[.map (some m)] ∧ bB < m ∧ MapO w m n (fun id => (Pk.fnd kn id).map Pk.It.v)
theorem ByS.kpt {w w' : World} {bB : Nat} {kn : List Pk.It} (h : ByS w bB kn) {S : Nat → Prop} (k : Kpt S w w') (hS : ∀ x, bB ≤ x → ¬ S x) : ByS w' bB kn := by
  rcases h with h | ⟨m, n, h1, h2, h3⟩
  · exact Or.inl (k.blk h (hS bB (Nat.le_refl _)))
  · exact Or.inr ⟨m, n, k.blk h1 (hS bB (Nat.le_refl _)), h2, h3.block (k.block m h3.lt (hS m (Nat.le_of_lt h2)))⟩
theorem oid_load : (Tryz.prog.info? 49).map (·.size) = some 32 := by kernel_rfl
theorem fv_agg (l : List Pk.It) (id : List Nat) (hv : ∀ p ∈ l, p.val.oneCell' = true) : ∃ cs : Array Value, ((Pk.fnd l id).map Pk.It.v).getD zItem = .agg cs ∧ cs.size = 34 ∧ cs.all (·.oneCell') = true := by
  cases h : Pk.fnd l id with
  | none => exact ⟨_, rfl, by rw [List.size_toArray, itemC_len zid_id], itemC_one rfl 0⟩
  | some p => exact ⟨_, rfl, by rw [List.size_toArray, itemC_len (sum_id _)], itemC_one (hv p (Pk.fnd_mem h).1) _⟩
theorem resultsP {fn : Func} {t : Tmp} (hr : fn.results = #[.cell t 51]) {tmps : Array Value} {W : World} {g : Nat} {cs : Array Value} (h4 : tmps.getD t undef = .pointer (some ⟨g, 0, none⟩)) (hb : Blk W g 51 cs) (hs : cs.size = 34) :
    (results fn tmps).run Tryz.prog W = .ok (.agg cs) W := by
  have hl : (loadVar 51 ⟨g, 0, none⟩).run Tryz.prog W = .ok (.agg cs) W := run_loadVar_row W g 51 51 cs (0, 0) _ hb Tryz.underlying51 (by rfl) (by rw [hs]; exact item_size)
  simp only [Array.getD_eq_getD_getElem?] at h4
  simp [results, hr, h4, asAddr, hl]
theorem resultsP2 {fn : Func} {t s : Tmp} (hr : fn.results = #[.cell t 51, .tmp s]) {tmps : Array Value} {W : World} {g : Nat} {cs : Array Value} (h4 : tmps.getD t undef = .pointer (some ⟨g, 0, none⟩)) (hb : Blk W g 51 cs) (hs : cs.size = 34) :
    (results fn tmps).run Tryz.prog W = .ok (.tuple #[.agg cs, tmps.getD s undef]) W := by
  have hl : (loadVar 51 ⟨g, 0, none⟩).run Tryz.prog W = .ok (.agg cs) W := run_loadVar_row W g 51 51 cs (0, 0) _ hb Tryz.underlying51 (by rfl) (by rw [hs]; exact item_size)
  simp only [Array.getD_eq_getD_getElem?] at h4 ⊢
  simp [results, hr, h4, asAddr, hl]
end Go.Proofs.YtolfphfdeccleaaGreatDoor
/- What is known, found by its id: the finder's function. -/
namespace Go.Proofs.YtolfphfdeccleaaGreatDoor
open Go Go.RowKit
theorem map_some (m : Nat) (w : World) : (binOp .eql 71 (.map (some m)) (.map none)).run Tryz.prog w = .ok (.bool false) w := by kernel_rfl
theorem map_none (w : World) : (binOp .eql 71 (.map none) (.map none)).run Tryz.prog w = .ok (.bool true) w := by kernel_rfl
set_option maxRecDepth 100000 in
set_option maxHeartbeats 2000000 in
theorem find1_has (bB bK m n : Nat) (kn : List Pk.It) (id : List Nat) (w : World) (hB : Blk w bB 71 #[.map (some m)]) (hM : MapO w m n (fun id => (Pk.fnd kn id).map Pk.It.v)) (hv : ∀ p ∈ kn, p.val.oneCell' = true) (hid : Id32 id) :
    Calls Tryz.prog 57 #[.agg (u8s id), .pointer (some ⟨bB, 0, none⟩), .pointer (some ⟨bK, 0, none⟩)] w fun e w' => e = .returned (.tuple #[((Pk.fnd kn id).map Pk.It.v).getD zItem, .bool (Pk.fnd kn id).isSome]) ∧ Below w.heap.size w w' := by
  obtain ⟨w2, hw2⟩ : ∃ w2, w2 = (w.alloc (.cells (u8s id) 49)).alloc (.cells (itemC zid nilV 0).toArray 51) := ⟨_, rfl⟩
  have b2 : Below w.heap.size w w2 := hw2 ▸ ((Below.refl _ _).alloc (Nat.le_refl _) _).alloc (by simp) _
  have HI : Hid (Blk w2 w.heap.size 49 (u8s id)) := Lib.hid (hw2 ▸ (Blk.new w _ _).alloc _)
  have HZ : Hid (Blk w2 (w.heap.size + 1) 51 (itemC zid nilV 0).toArray) := Lib.hid (by rw [hw2]; have h := Blk.new (w.alloc (.cells (u8s id) 49)) 51 (itemC zid nilV 0).toArray; rwa [World.size_alloc] at h)
  have p0 : w2.cell? ⟨bB, 0, none⟩ = some (.map (some m)) := (hB.below b2 hB.lt).cell 0
  have q0 := (hM.below b2).look_ok Tryz.underlying71 (zeroItem w2) hid
  obtain ⟨cs, hcs, hc34, hc1⟩ := fv_agg kn id hv
  rw [hcs] at q0 ⊢
  rw [Option.isSome_map] at q0
  generalize (Pk.fnd kn id).isSome = has at q0 ⊢
  have HL := Lib.hid hid.1
  have HB2 := Lib.hid b2
  have HC := Lib.hid hc34
  have H1 := Lib.hid hc1
  have e2 := hw2.symm
  have em := map_some m
  have s2 : w.heap.size + 2 ≤ w2.heap.size := by rw [hw2]; simp
  clear hB hM hid hw2 hcs hc34 hc1 hv b2
  go_enter Tryz.func57, Tryz.ntmps57
  go_wp2_with (with_reducible (show wpList _ _ _ (Oper.mk _ (Op.load 71 _) _ _ _ _ :: _) _ _); refine pause ?_)
  unfold Paused
  change wpList _ _ _ _ _ ((w.alloc (.cells (u8s id) 49)).alloc (.cells (itemC zid nilV 0).toArray 51))
  rw [e2]
  go_wp2_with (with_reducible (show wpList _ _ _ (Oper.mk _ (Op.load 49 _) _ _ _ _ :: _) _ _); refine pause ?_)
  unfold Paused
  refine wpList_row_w (by rfl) 49 (.tmp 3) (by rfl) w.heap.size (by rfl) 49 (u8s id) _ HI.out Tryz.underlying49 (by rfl) (by rw [u8s_size, HL.out]; exact oid_load) ?_
  go_wp2_with (with_reducible (show wpList _ _ _ (Oper.mk _ (Op.store 51 _ _) _ _ _ _ :: _) _ _); refine pause ?_)
  unfold Paused
  change wpList _ _ _ _ _ (w2.alloc (.cells (itemC zid nilV 0).toArray 51))
  refine wpList_store_row (by rfl) 51 (.tmp 9) (.tmp 35) (by rfl) w2.heap.size cs (by rfl) (by rfl) 51 (itemC zid nilV 0).toArray (Blk.new w2 _ _) (by rw [HC.out]; exact item_size) (by rw [HC.out]; rfl) H1.out ?_
  have HB3 : Hid (Below w2.heap.size w2 ((w2.alloc (.cells (itemC zid nilV 0).toArray 51)).setRow w2.heap.size cs)) := Lib.hid (below_row ((Below.refl _ _).alloc (Nat.le_refl _) _) (Nat.le_refl _) cs)
  have HX3 : Hid (Blk ((w2.alloc (.cells (itemC zid nilV 0).toArray 51)).setRow w2.heap.size cs) w2.heap.size 51 cs) := Lib.hid ((Blk.new w2 _ _).row cs)
  have HZ3 := Lib.hid (HZ.out.below HB3.out HZ.out.lt)
  have HB3' := Lib.hid (below_next HB2.out HB3.out)
  generalize (w2.alloc (.cells (itemC zid nilV 0).toArray 51)).setRow w2.heap.size cs = w3 at HX3 HZ3 HB3' ⊢
  clear HB3 q0 p0
  generalize w2.heap.size = g9 at HX3 s2 ⊢
  simp only [Act.put]
  go_wp2_with (with_reducible (show wpList _ _ _ (Oper.mk _ (Op.load 51 _) _ _ _ _ :: _) _ _); refine pause ?_)
  unfold Paused
  refine wpList_row_w (by rfl) 51 (.tmp 9) (by rfl) g9 (by rfl) 51 cs _ HX3.out Tryz.underlying51 (by rfl) (by rw [HC.out]; exact item_size) ?_
  go_wp2_with (with_reducible (show wpList _ _ _ (Oper.mk _ (Op.store 51 _ _) _ _ _ _ :: _) _ _); refine pause ?_)
  unfold Paused
  refine wpList_store_row (by rfl) 51 (.tmp 4) (.tmp 37) (by rfl) (w.heap.size + 1) cs (by rfl) (by rfl) 51 (itemC zid nilV 0).toArray HZ3.out (by rw [HC.out]; exact item_size) (by rw [HC.out]; rfl) H1.out ?_
  have HX4 := Lib.hid (HZ3.out.row cs)
  have HB4 : Hid (Below w.heap.size w (w3.setRow (w.heap.size + 1) cs)) := Lib.hid (below_row HB3'.out (by omega) cs)
  generalize w3.setRow (w.heap.size + 1) cs = w4 at HX4 HB4 ⊢
  simp only [Act.put]
  go_wp2
  exact bodyPost_ret (v := .tuple #[.agg cs, .bool has]) (resultsP2 (t := 4) (s := 5) rfl (by rfl) HX4.out HC.out) rfl ⟨rfl, HB4.out⟩
end Go.Proofs.YtolfphfdeccleaaGreatDoor
