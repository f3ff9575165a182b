/- object.read of any bytes; object.Parse. -/
import Derived.Test.YtgcgomdhdgjpdaaGreatDoorMOb29
import Derived.Test.YtgcgomdhdgjpdaaGreatDoorMBases
namespace Go.Proofs.YtgcgomdhdgjpdaaGreatDoor
open Go Go.RowKit
theorem oread_any (i r : Nat) (xs : List Nat) (a : Nat → Addr) (w0 w : World) (h : InAt w0 w i r xs) (hb : Oc.bytes xs) (hz : xs.length ≤ 300) (hS : PSents w0 a) :
  Calls Tryz.prog 136 #[.pointer (some ⟨i, 0, none⟩)] w fun e w' => ReadPost xs a w0 w i r e w' := by
 obtain _ | ⟨c, ys⟩ := xs
 ·exact oread_nil i r a w0 w h hS
 ·by_cases h1 : c = 98
  ·subst h1; exact oread_blob i r ys a w0 w h hb hz hS
  ·by_cases h2 : c = 116
   ·subst h2; exact oread_tree i r ys a w0 w h hb hz hS
   ·by_cases h3 : c = 99
    ·subst h3
     rcases Nat.lt_trichotomy ys.length 32 with h4 | h4 | h4
     ·exact oread_commit0 i r ys a w0 w h hb hz hS h4
     ·exact oread_commit1 i r ys a w0 w h hb hz hS h4
     ·exact oread_commit i r ys a w0 w h hb hz hS h4
    ·by_cases h4 : c = 103
     ·subst h4
      rcases Nat.lt_or_ge ys.length 32 with h5 | h5
      ·exact oread_tag0 i r ys a w0 w h hb hz hS h5
      ·exact oread_tag i r ys a w0 w h hb hz hS h5
     ·exact oread_kind i r c ys a w0 w h hb hz hS h1 h2 h3 h4
theorem ObO.up {m g : Nat} {w w' : World} {o : Ob} {cs : Array Value} {T E P : Option Addr} {tc ec pc : Nat} (h : ObO g w o cs T tc E ec P pc) (hm : m < g) (hg : w.grownBy w' (some m)) : ObO m w' o cs T tc E ec P pc :=
 ⟨h.cells, own_low (h.text.kept hg (own_far h.text hm)) (by omega), own_low (h.ents.kept hg (own_far h.ents hm)) (by omega), own_low (h.pars.kept hg (own_far h.pars hm)) (by omega)⟩
theorem obj_empty : Tryz.prog.built 183 [] = some zOc := by
 rw [built_of iobj_under obj_zero obj_places, zOc_cells]
 exact fill_done _ _
theorem read_enters (args : Array Value) (w : World) : (callFunc 136 args).run Tryz.prog w = .ok (.enter 136 args) w := by kernel_rfl
set_option maxRecDepth 100000 in
theorem oparse_ok (o : Ob) (xs : List Nat) (a : Nat → Addr) (v : Value) (w : World) (hv : Rd w v xs) (hb : Oc.bytes xs) (hz : xs.length ≤ 300) (hS : PSents w a) (hp : Ob.parse xs = .ok o) :
  Calls Tryz.prog 105 #[v] w fun e w' => ∃ cs T tc E ec P pc, e = .returned (.tuple #[.agg cs, .nilIface]) ∧ o.Fit ∧ o.Held ∧ ObO w.heap.size w' o cs T tc E ec P pc ∧ Below w.heap.size w w' := by
 have hv0 := hv
 obtain ⟨A, c, rfl, _⟩ := hv0
 have hwa : Below w.heap.size w (w.alloc (.cells zOc 183)) := (Below.refl _ _).alloc (Nat.le_refl _) _
 have CT := takeO_ok 136 #[] w (w.alloc (.cells zOc 183)) A xs.length c xs (fun m cs w' => ∃ T tc E ec P pc, o.Fit ∧ o.Held ∧ ObO m w' o cs T tc E ec P pc) read_enters hwa hv
  (fun w2 i r _ _ hi _ => (oread_any i r xs a w w2 hi hb hz hS).mono fun e w' hq => by
   obtain ⟨cs, T, tc, E, ec, P, pc, he, h1, h2, h3, h4, h5⟩ := hq.2 o hp
   refine ⟨cs, he, ?_, h3.one, h4, h5, T, tc, E, ec, P, pc, h1, h2, h3⟩
   rw [h3.cells, cellsOb_size _ _ _ _ _ h1.target.1])
  (fun m cs x y ⟨T, tc, E, ec, P, pc, h1, h2, h3⟩ hk => ⟨T, tc, E, ec, P, pc, h1, h2, h3.kept hk⟩)
 have HWA := Lib.hid hwa
 have i1 : ¬ ((xs.length : Int) > 300) := by omega
 clear hwa hv hb hz hS hp
 go_enter Tryz.func105, Tryz.ntmps105
 go_wp2_with (go_at_call 135; refine pause ?_)
 unfold Paused
 change Calls _ _ _ (w.alloc (.cells zOc 183)) _
 refine CT.mono ?_
 rintro e w3 ⟨cs, m, rfl, hs, hm, ⟨T, tc, E, ec, P, pc, hf, hd, ho⟩, hb3⟩
 have HM : Hid (w.heap.size < m) := Lib.hid (by have h := hm; simp at h; omega)
 have HS3 := Lib.hid hs
 have HF := Lib.hid hf
 have HD := Lib.hid hd
 have HO := Lib.hid ho
 have HB3 : Hid (Below w.heap.size w w3) := Lib.hid (HWA.out.trans (hb3.mono (by simp)))
 have HZ3 : Hid (Blk w3 w.heap.size 183 zOc) := Lib.hid ((Blk.new w 183 zOc).below hb3 (by simp))
 clear hs hf hd ho hb3 hm CT
 go_wp2_with (with_reducible (show wpList _ _ _ (Oper.mk _ (Op.store 183 _ _) _ _ _ _ :: _) _ _); refine pause ?_)
 unfold Paused
 refine wpList_store_row (by rfl) 183 (.tmp 2) (.tmp 11) (by rfl) w.heap.size cs (by rfl) (by rfl) 183 zOc HZ3.out (by rw [HS3.out]; kernel_rfl) (by rw [HS3.out]; rfl) (ObO.one HO.out) ?_
 have HR := Lib.hid (HZ3.out.row cs)
 have HG : Hid (w3.grownBy (w3.setRow w.heap.size cs) (some w.heap.size)) := Lib.hid (only_setRow (World.grownBy.refl w3 _) (Or.inl rfl) _)
 have HB : Hid (Below w.heap.size w (w3.setRow w.heap.size cs)) := Lib.hid (below_row HB3.out (Nat.le_refl _) _)
 generalize w3.setRow w.heap.size cs = w4 at HR HG HB ⊢
 go_wp2
 exact bodyPost_ret (v := .tuple #[.agg cs, .nilIface]) (resultsO2 (t := 2) (s := 3) rfl (by rfl) HR.out HS3.out) rfl ⟨cs, T, tc, E, ec, P, pc, rfl, HF.out, HD.out, HO.out.up HM.out HG.out, HB.out⟩
set_option maxRecDepth 100000 in
theorem oparse_bad (n : Nat) (xs : List Nat) (a : Nat → Addr) (v : Value) (w : World) (hv : Rd w v xs) (hb : Oc.bytes xs) (hz : xs.length ≤ 300) (hS : PSents w a) (hp : Ob.parse xs = .bad n) :
  Calls Tryz.prog 105 #[v] w fun e w' => e = .returned (.tuple #[.agg zOc, ev (a (n - 1))]) ∧ Below w.heap.size w w' := by
 have hv0 := hv
 obtain ⟨A, c, rfl, _⟩ := hv0
 have hwa : Below w.heap.size w (w.alloc (.cells zOc 183)) := (Below.refl _ _).alloc (Nat.le_refl _) _
 have CT := takeO_bad 136 #[] w (w.alloc (.cells zOc 183)) A xs.length c xs (a (n - 1)) read_enters hwa hv
  (fun w2 i r _ _ hi _ => (oread_any i r xs a w w2 hi hb hz hS).mono fun e w' hq => hq.1 n hp)
 have HWA := Lib.hid hwa
 have i1 : ¬ ((xs.length : Int) > 300) := by omega
 clear hwa hv hb hz hS hp
 go_enter Tryz.func105, Tryz.ntmps105
 go_wp2_with (go_at_call 135; refine pause ?_)
 unfold Paused
 change Calls _ _ _ (w.alloc (.cells zOc 183)) _
 refine CT.mono ?_
 rintro e w3 ⟨rfl, hb3⟩
 have HB3 : Hid (Below w.heap.size w w3) := Lib.hid (HWA.out.trans (hb3.mono (by simp)))
 have HZ3 : Hid (Blk w3 w.heap.size 183 zOc) := Lib.hid ((Blk.new w 183 zOc).below hb3 (by simp))
 clear hb3 CT
 go_wp2_with (with_reducible (show wpList _ _ _ (Oper.mk _ (Op.store 183 _ _) _ _ _ _ :: _) _ _); refine pause ?_)
 unfold Paused
 refine wpList_store_row (by rfl) 183 (.tmp 2) (.tmp 11) (by rfl) w.heap.size zOc (by rfl) (by rfl) 183 zOc HZ3.out (by kernel_rfl) (by rfl) (by kernel_rfl) ?_
 have HR := Lib.hid (HZ3.out.row zOc)
 have HB : Hid (Below w.heap.size w (w3.setRow w.heap.size zOc)) := Lib.hid (below_row HB3.out (Nat.le_refl _) _)
 generalize w3.setRow w.heap.size zOc = w4 at HR HB ⊢
 go_wp2
 exact bodyPost_ret (v := .tuple #[.agg zOc, ev (a (n - 1))]) (resultsO2 (t := 2) (s := 3) rfl (by rfl) HR.out (by kernel_rfl)) rfl ⟨rfl, HB.out⟩
set_option maxRecDepth 100000 in
theorem oparse_large (aG : Addr) (xs : List Nat) (v : Value) (w : World) (hv : Rd w v xs) (hz : 300 < xs.length) (hS : w.cell? ⟨13, 0, none⟩ = some (ev aG)) :
  Calls Tryz.prog 105 #[v] w fun e w' => e = .returned (.tuple #[.agg zOc, ev aG]) ∧ Below w.heap.size w w' := by
 obtain ⟨A, c, rfl, _⟩ := hv
 have hm : Tryz.prog.follows .mixedOrders = true := by kernel_rfl
 obtain ⟨w6, hw6⟩ : ∃ w6, w6 = w.alloc (.cells zOc 183) := ⟨_, rfl⟩
 have HWA : Hid (Below w.heap.size w w6) := Lib.hid (hw6 ▸ (Below.refl _ _).alloc (Nat.le_refl _) _)
 have HZ6 : Hid (Blk w6 w.heap.size 183 zOc) := Lib.hid (hw6 ▸ Blk.new w 183 zOc)
 have pL : w6.cell? ⟨13, 0, none⟩ = some (ev aG) := (HWA.out.cell (block_lt_of_cell hS)).trans hS
 have e2 := hw6.symm
 have i1 : (xs.length : Int) > 300 := by omega
 clear hS hz hw6
 go_enter Tryz.func105, Tryz.ntmps105
 go_wp2
 refine wp_region_held (S := fun w' => w' = w6.drew) hm ?_
 change wpAnyH _ _ _ _ _ _ _ _ (w.alloc (.cells zOc 183)).drew
 rw [e2]
 refine wpAnyH_take (i := 1) (v := ?_) rfl (by kernel_rfl) (by kernel_rfl) (by kernel_rfl) (fun _ _ _ h => h) (Or.inl ⟨by rfl, ?_⟩) rfl ?_
 rotate_left
 ·rintro w' rfl; go_simp; with_reducible rfl
 try simp only [Act.put, List.getElem_toArray, List.getElem_cons_zero, List.getElem_cons_succ, List.setIfInBounds_toArray, List.set_cons_zero, List.set_cons_succ]
 refine all_one (i := 0) (by kernel_rfl) rfl (by rfl) (fun K hK => ?_)
 refine wp_buildK 183 _ (by rfl) [] (by simp) zOc obj_empty ?_
 refine hK _ _ rfl ?_
 try simp only [Act.put, List.getElem_toArray, List.getElem_cons_zero, List.setIfInBounds_toArray, List.set_cons_zero, List.set_cons_succ]
 refine all_one (i := 2) (by kernel_rfl) rfl (by rfl) (fun K hK => ?_)
 refine wp_store_row 183 (.tmp 2) (.tmp 7) (by rfl) w.heap.size zOc (by rfl) (by rfl) 183 zOc HZ6.out.drew (by kernel_rfl) (by rfl) (by kernel_rfl) ?_
 rw [setRow_self w6.drew w.heap.size zOc 183 (0, 0) HZ6.out.drew]
 refine hK _ _ rfl ?_
 try simp only [Act.put, List.getElem_toArray, List.getElem_cons_zero, List.getElem_cons_succ]
 refine all_one (i := 3) (by kernel_rfl) rfl (by rfl) (fun K hK => ?_)
 go_simp
 refine hK _ _ rfl ?_
 try simp only [Act.put, List.getElem_toArray, List.getElem_cons_zero, List.getElem_cons_succ, List.setIfInBounds_toArray, List.set_cons_zero, List.set_cons_succ]
 refine wpAnyH_done (by kernel_rfl) ?_ _
 clear pL
 go_wp2
 exact bodyPost_ret (v := .tuple #[.agg zOc, ev aG]) (resultsO2 (t := 2) (s := 3) rfl (by rfl) HZ6.out.drew (by kernel_rfl)) rfl ⟨rfl, below_drewN HWA.out 1⟩
theorem strB_textOf (l : List Nat) (h : Oc.bytes l) : strB (textOf l) = l := by
 unfold textOf strB
 show ((l.map UInt8.ofNat).toArray.toList).map UInt8.toNat = l
 rw [List.toList_toArray, List.map_map]
 conv => rhs; rw [← List.map_id l]
 exact List.map_congr_left fun x hx => by
  have := h x hx
  show (UInt8.ofNat x).toNat = x
  rw [UInt8.toNat_ofNat']
  exact Nat.mod_eq_of_lt (by simpa using this)
theorem entB_cons (e : Ent) (ys : List Nat) : entB e ++ ys = e.name.size :: (strB e.name ++ (e.id ++ ys)) := by simp [entB]
theorem entsGo_back : ∀ (f : Nat) (es fs : List Ent) (ys : List Nat), Oc.bytes ys → entsGo f es ys = some fs → ∃ gs : List Ent, fs = es ++ gs ∧ gs.flatMap entB = ys
 | f, es, fs, [], _, h => by
  have : some es = some fs := by cases f <;> exact h
  exact ⟨[], by rw [List.append_nil]; exact (Option.some.inj this).symm, rfl⟩
 | 0, _, _, _ :: _, _, h => by cases h
 | f + 1, es, fs, n :: ys, hb, h => by
  unfold entsGo at h
  by_cases hl : ys.length < n + 32
  ·rw [if_pos hl] at h; cases h
  ·rw [if_neg hl] at h
   have hy := bytes_tail hb
   obtain ⟨gs, h1, h2⟩ := entsGo_back f _ fs _ (Oc.bytes_drop hy (n + 32)) h
   refine ⟨entOf n ys :: gs, by rw [h1, List.append_assoc]; rfl, ?_⟩
   have hn : (entOf n ys).name.size = n := by
    show (textOf (ys.take n)).size = n
    rw [textOf_size, List.length_take]; omega
   rw [List.flatMap_cons, entB_cons, hn, h2]
   show n :: (strB (textOf (ys.take n)) ++ ((ys.drop n).take 32 ++ ys.drop (n + 32))) = n :: ys
   rw [strB_textOf _ (Oc.bytes_take hy n), ← List.drop_drop, List.take_append_drop, List.take_append_drop]
theorem parsGo_back : ∀ (n : Nat) (ps : List (List Nat)) (ys : List Nat) (q : List (List Nat) × List Nat), parsGo n ps ys = some q → ∃ gs : List (List Nat), q.1 = ps ++ gs ∧ gs.length = n ∧ gs.flatten ++ q.2 = ys
 | 0, ps, ys, q, h => by
  obtain rfl : (ps, ys) = q := Option.some.inj h
  exact ⟨[], (List.append_nil _).symm, rfl, rfl⟩
 | n + 1, ps, ys, q, h => by
  unfold parsGo at h
  by_cases hl : ys.length < 32
  ·rw [if_pos hl] at h; cases h
  ·rw [if_neg hl] at h
   obtain ⟨gs, h1, h2, h3⟩ := parsGo_back n _ _ q h
   exact ⟨ys.take 32 :: gs, by rw [h1, List.append_assoc]; rfl, by rw [List.length_cons, h2], by rw [List.flatten_cons, List.append_assoc, h3, List.take_append_drop]⟩
theorem fin_ok {o x : Ob} (h : Prs.fin o = .ok x) : x = o ∧ o.right = true := by
 unfold Prs.fin at h
 cases hr : o.right with
 | true => rw [hr, if_pos rfl] at h; injection h with h; exact ⟨h.symm, rfl⟩
 | false => rw [hr, if_neg (by simp)] at h; cases h
theorem fin_of {o : Ob} (h : o.right = true) : Prs.fin o = .ok o := by
 unfold Prs.fin
 rw [h, if_pos rfl]
theorem parse_laid {xs : List Nat} {o : Ob} (hb : Oc.bytes xs) (h : Ob.parse xs = .ok o) : o.front ++ o.text = xs ∧ o.right = true := by
 obtain _ | ⟨c, ys⟩ := xs
 ·cases h
 have hy := bytes_tail hb
 unfold Ob.parse at h
 dsimp only at h
 by_cases h1 : c = 98
 ·rw [if_pos h1] at h
  obtain ⟨rfl, hr⟩ := fin_ok h
  subst h1
  exact ⟨by simp [Ob.front, letterN, aimsB], hr⟩
 ·rw [if_neg h1] at h
  by_cases h2 : c = 116
  ·rw [if_pos h2] at h
   cases hq : entsOf [] ys with
   | none => rw [hq] at h; cases h
   | some es =>
    rw [hq] at h
    obtain ⟨rfl, hr⟩ := fin_ok h
    obtain ⟨gs, e1, e2⟩ := entsGo_back _ _ _ _ hy hq
    rw [List.nil_append] at e1
    subst e1 h2
    exact ⟨by simp [Ob.front, letterN, aimsB, e2], hr⟩
  ·rw [if_neg h2] at h
   by_cases h3 : c = 99
   ·rw [if_pos h3] at h
    by_cases h4 : ys.length < 33
    ·rw [if_pos h4] at h; cases h
    ·rw [if_neg h4] at h
     cases hq : parsGo (ys.getD 32 0) [] (ys.drop 33) with
     | none => rw [hq] at h; cases h
     | some q =>
      rw [hq] at h
      obtain ⟨rfl, hr⟩ := fin_ok h
      obtain ⟨gs, e1, e2, e3⟩ := parsGo_back _ _ _ _ hq
      rw [List.nil_append] at e1
      subst h3
      refine ⟨?_, hr⟩
      have e4 : Ob.front ⟨3, q.2, [], ys.take 32, q.1⟩ ++ q.2 = 99 :: (ys.take 32 ++ (q.1.length :: (q.1.flatten ++ q.2))) := by simp [Ob.front, letterN, aimsB]
      rw [e4, e1, e2, e3, ← drop_at (k := 32) (by omega), List.take_append_drop]
   ·rw [if_neg h3] at h
    by_cases h4 : c = 103
    ·rw [if_pos h4] at h
     by_cases h5 : ys.length < 32
     ·rw [if_pos h5] at h; cases h
     ·rw [if_neg h5] at h
      obtain ⟨rfl, hr⟩ := fin_ok h
      subst h4
      refine ⟨?_, hr⟩
      have e4 : Ob.front ⟨4, ys.drop 32, [], ys.take 32, []⟩ ++ ys.drop 32 = 103 :: (ys.take 32 ++ ys.drop 32) := by simp [Ob.front, letterN, aimsB]
      rw [e4, List.take_append_drop]
    ·rw [if_neg h4] at h; cases h
theorem lkpars_len (ps : List (List Nat)) (h : ∀ p ∈ ps, Id32 p) : ps.flatten.length = 32 * ps.length := by
 induction ps with
 | nil => rfl
 | cons p ps ih =>
  rw [List.flatten_cons, List.length_append, (h p (List.mem_cons_self ..)).1, ih (fun x hx => h x (List.mem_cons_of_mem _ hx)), List.length_cons]
  omega
theorem lkents_len (es : List Ent) (h : ∀ e ∈ es, Id32 e.id) : 32 * es.length ≤ (es.flatMap entB).length := by
 induction es with
 | nil => exact Nat.zero_le _
 | cons e es ih =>
  have h1 := ih (fun x hx => h x (List.mem_cons_of_mem _ hx))
  have h2 := (h e (List.mem_cons_self ..)).1
  rw [List.flatMap_cons, entB_cons, List.length_cons, List.length_cons, List.length_append, List.length_append]
  omega
theorem links_small {o : Ob} (hf : o.Fit) : 32 * o.links.length ≤ (o.front ++ o.text).length := by
 have h1 := lkents_len o.ents hf.ents
 have h2 := lkpars_len o.pars hf.pars
 have h3 : (if aimsB o.kind then o.target else []).length = 32 * (if aimsB o.kind then [o.target] else []).length := by
  split
  ·rw [hf.target.1]; rfl
  ·rfl
 unfold Ob.links Ob.front
 simp only [List.length_append, List.length_map, List.length_singleton] at h1 h2 h3 ⊢
 omega
end Go.Proofs.YtgcgomdhdgjpdaaGreatDoor
/- Plain mathematics of figures that are read, and of the order of byte lists. Nothing of the program. -/
namespace Go.Proofs.YtgcgomdhdgjpdaaGreatDoor
namespace Sha
def fgI (c : Nat) : Int := if 48 ≤ c ∧ c ≤ 57 then (c : Int) - 48 else if 97 ≤ c ∧ c ≤ 102 then (c : Int) - 87 else -1
def fgN (c : Nat) : Nat := (fgI c).toNat
def good (l : List Nat) : Prop := ∀ i, i < 64 → 0 ≤ fgI (l.getD i 0)
def unhex (l : List Nat) : List Nat := (List.range 32).map fun i => 16 * fgN (l.getD (2*i) 0) + fgN (l.getD (2*i+1) 0)
theorem unhex_len (l : List Nat) : (unhex l).length = 32 := by simp [unhex]
def cmpN : List Nat → List Nat → Int
 | [], [] => 0
 | [], _ :: _ => -1
 | _ :: _, [] => 1
 | a :: zs9, b :: bs => if a < b then -1 else if b < a then 1 else cmpN zs9 bs
theorem cmpN_cases : ∀ (a b : List Nat), cmpN a b = -1 ∨ cmpN a b = 0 ∨ cmpN a b = 1
 | [], [] => by simp [cmpN]
 | [], _ :: _ => by simp [cmpN]
 | _ :: _, [] => by simp [cmpN]
 | a :: zs9, b :: bs => by
  have ih := cmpN_cases zs9 bs
  unfold cmpN; split
  ·simp
  ·split
   ·simp
   ·exact ih
theorem cmpN_self : ∀ (a : List Nat), cmpN a a = 0
 | [] => rfl
 | a :: zs9 => by simp [cmpN, cmpN_self zs9]
theorem cmpN_zero : ∀ (a b : List Nat), cmpN a b = 0 → a = b
 | [], [], _ => rfl
 | [], _ :: _, h => by simp [cmpN] at h
 | _ :: _, [], h => by simp [cmpN] at h
 | a :: zs9, b :: bs, h => by
  unfold cmpN at h
  split at h
  ·omega
  ·split at h
   ·omega
   ·rw [cmpN_zero zs9 bs h, show a = b by omega]
theorem cmpN_anti : ∀ (a b : List Nat), cmpN a b = - cmpN b a
 | [], [] => rfl
 | [], _ :: _ => rfl
 | _ :: _, [] => rfl
 | a :: zs9, b :: bs => by
  have ih := cmpN_anti zs9 bs
  unfold cmpN
  by_cases h1 : a < b
  ·have h2 : ¬ b < a := by omega
   simp [h1, h2]
  ·by_cases h2 : b < a
   ·simp [h1, h2]
   ·simp only [h1, h2, if_false]; exact ih
theorem cmpN_trans : ∀ (a b c : List Nat), cmpN a b < 0 → cmpN b c < 0 → cmpN a c < 0
 | [], [], _, h, _ => by simp [cmpN] at h
 | [], _ :: _, [], _, h => by simp [cmpN] at h
 | [], _ :: _, _ :: _, _, _ => by simp [cmpN]
 | _ :: _, [], _, h, _ => by simp [cmpN] at h
 | _ :: _, _ :: _, [], _, h => by simp [cmpN] at h
 | a :: zs9, b :: bs, c :: cs, h1, h2 => by
  have ih := cmpN_trans zs9 bs cs
  unfold cmpN at h1 h2 ⊢
  split at h1
  ·split at h2
   ·rw [if_pos (by omega)]; decide
   ·split at h2
    ·exact absurd h2 (by decide)
    ·rw [if_pos (by omega)]; decide
  ·split at h1
   ·exact absurd h1 (by decide)
   ·split at h2
    ·rw [if_pos (by omega)]; decide
    ·split at h2
     ·exact absurd h2 (by decide)
     ·rw [if_neg (by omega), if_neg (by omega)]; exact ih h1 h2
end Sha
end Go.Proofs.YtgcgomdhdgjpdaaGreatDoor
/- Plain mathematics of lists of digests: neighbours that are the same told once, what rises. Nothing of the program. -/
namespace Go.Proofs.YtgcgomdhdgjpdaaGreatDoor
namespace Sha
def compK (l : List (List Nat)) : Nat → List (List Nat)
 | 0 => []
 | k + 1 => if 0 < k ∧ l.getD k [] = l.getD (k - 1) [] then compK l k else compK l k ++ [l.getD k []]
theorem compK_len (l : List (List Nat)) : ∀ k, (compK l k).length ≤ k
 | 0 => by simp [compK]
 | k + 1 => by
  have := compK_len l k
  unfold compK; split
  ·omega
  ·simp; omega
theorem take_snoc_getD {l : List (List Nat)} {k : Nat} (h : k < l.length) : l.take (k + 1) = l.take k ++ [l.getD k []] := by
 rw [List.take_add_one]; simp [List.getD, h]
theorem compK_take (l : List (List Nat)) : ∀ k, k ≤ l.length → (∀ i, 0 < i → i < k → l.getD i [] ≠ l.getD (i - 1) []) → compK l k = l.take k
 | 0, _, _ => by simp [compK]
 | k + 1, h, hn => by
  have ih := compK_take l k (by omega) (fun i h1 h2 => hn i h1 (by omega))
  unfold compK
  rw [if_neg (fun e => hn k e.1 (by omega) e.2), ih, take_snoc_getD (by omega)]
theorem compK_last (l : List (List Nat)) : ∀ k, 0 < k → ∃ r, compK l k = r ++ [l.getD (k - 1) []]
 | k + 1, _ => by
  unfold compK; split
  ·next h =>
   obtain ⟨r, hr⟩ := compK_last l k h.1
   exact ⟨r, by rw [hr, ← h.2]; simp⟩
  ·exact ⟨compK l k, by simp⟩
theorem compK_mem (l : List (List Nat)) : ∀ k, k ≤ l.length → ∀ x, x ∈ compK l k ↔ x ∈ l.take k
 | 0, _, x => by simp [compK]
 | k + 1, h, x => by
  have ih := compK_mem l k (by omega) x
  rw [take_snoc_getD (by omega)]
  unfold compK; split
  ·next hh =>
   rw [ih, List.mem_append, List.mem_singleton]
   constructor
   ·exact Or.inl
   ·rintro (h1 | rfl)
    ·exact h1
    ·rw [hh.2]
     have : l.getD (k - 1) [] = (l.take k)[k - 1]'(by simp; omega) := by
      rw [List.getElem_take]; simp [List.getD, show k - 1 < l.length by omega]
     rw [this]; exact List.getElem_mem _
  ·rw [List.mem_append, List.mem_append, ih]
theorem compK_short (l : List (List Nat)) (k : Nat) (hk : 0 < k) (he : l.getD k [] = l.getD (k - 1) []) : ∀ j, 0 < j → (compK l (k + j)).length + 1 ≤ k + j
 | j + 1, _ => by
  rcases Nat.eq_zero_or_pos j with rfl | hj
  ·have := compK_len l k
   show (compK l (k + 1)).length + 1 ≤ k + 1
   unfold compK; rw [if_pos ⟨hk, he⟩]; omega
  ·have ih := compK_short l k hk he j hj
   show (compK l (k + j + 1)).length + 1 ≤ k + j + 1
   unfold compK; split
   ·omega
   ·simp; omega
theorem compK_same (l : List (List Nat)) (k : Nat) (hk : 0 < k) (he : l.getD k [] = l.getD (k - 1) []) : compK l (k + 1) = compK l k := by
 rw [compK, if_pos ⟨hk, he⟩]
theorem compK_next (l : List (List Nat)) (k : Nat) (he : l.getD k [] ≠ l.getD (k - 1) []) : compK l (k + 1) = compK l k ++ [l.getD k []] := by
 rw [compK, if_neg (fun h => he h.2)]
def contK (l : List (List Nat)) (k : Nat) : List (List Nat) := compK l k ++ l.drop (compK l k).length
theorem contK_len (l : List (List Nat)) (k : Nat) (h : k ≤ l.length) : (contK l k).length = l.length := by
 have := compK_len l k
 simp [contK]; omega
theorem contK_old (l : List (List Nat)) (k i : Nat) (h : (compK l k).length ≤ i) : (contK l k).getD i [] = l.getD i [] := by
 simp [contK, List.getD, List.getElem?_append_right h]
 congr 2; omega
theorem contK_new (l : List (List Nat)) (k i : Nat) (h : i < (compK l k).length) : (contK l k).getD i [] = (compK l k).getD i [] := by
 simp [contK, List.getD, List.getElem?_append_left h]
theorem contK_set (l : List (List Nat)) (k : Nat) (_h : k < l.length) (hs : (compK l k).length < l.length) (he : l.getD k [] ≠ l.getD (k - 1) []) : (contK l k).set (compK l k).length (l.getD k []) = contK l (k + 1) := by
 unfold contK
 rw [compK_next l k he, List.set_append_right _ _ (Nat.le_refl _), Nat.sub_self, List.length_append, List.length_singleton]
 obtain ⟨a, r, hr⟩ : ∃ a r, l.drop (compK l k).length = a :: r := by
  cases hd : l.drop (compK l k).length with
  | nil => rw [List.drop_eq_nil_iff] at hd; omega
  | cons a r => exact ⟨a, r, rfl⟩
 have hr2 : l.drop ((compK l k).length + 1) = r := by
  rw [← List.drop_drop, hr]; rfl
 rw [hr, hr2]; simp
theorem contK_oids {l : List (List Nat)} (hl : ∀ o ∈ l, o.length = 32 ∧ Byte o) (k : Nat) (h : k ≤ l.length) : ∀ o ∈ contK l k, o.length = 32 ∧ Byte o := fun o ho => by
 rcases List.mem_append.1 ho with h1 | h1
 ·exact hl o (List.mem_of_mem_take ((compK_mem l k h o).1 h1))
 ·exact hl o (List.mem_of_mem_drop h1)
def Asc (l : List (List Nat)) : Prop := ∀ i j, i < j → j < l.length → ¬ cmpN (l.getD j []) (l.getD i []) < 0
def Rising (l : List (List Nat)) : Prop := ∀ i j, i < j → j < l.length → cmpN (l.getD i []) (l.getD j []) < 0
theorem lt_of_le_ne {a b : List Nat} (h : ¬ cmpN b a < 0) (hne : a ≠ b) : cmpN a b < 0 := by
 have h1 := cmpN_anti a b
 rcases cmpN_cases a b with e | e | e
 ·omega
 ·exact absurd (cmpN_zero a b e) hne
 ·omega
theorem getD_append_l {l r : List (List Nat)} {i : Nat} (h : i < l.length) : (l ++ r).getD i [] = l.getD i [] := by simp [List.getD, List.getElem?_append_left h]
theorem getD_append_at {l : List (List Nat)} {x : List Nat} : (l ++ [x]).getD l.length [] = x := by simp [List.getD]
theorem compK_rising (l : List (List Nat)) (ha : Asc l) : ∀ k, k ≤ l.length → Rising (compK l k)
 | 0, _ => fun i j _ h => by simp [compK] at h
 | k + 1, hk => by
  have ih := compK_rising l ha k (by omega)
  unfold compK; split
  ·exact ih
  ·next hn =>
   intro i j hij hj
   rw [List.length_append, List.length_singleton] at hj
   by_cases hjl : j < (compK l k).length
   ·rw [getD_append_l hjl, getD_append_l (by omega)]; exact ih i j hij hjl
   ·obtain rfl : j = (compK l k).length := by omega
    rw [getD_append_at, getD_append_l hij]
    have hk0 : 0 < k := by have := compK_len l k; omega
    obtain ⟨r, hr⟩ := compK_last l k hk0
    have hlast : cmpN (l.getD (k - 1) []) (l.getD k []) < 0 := lt_of_le_ne (ha (k - 1) k (by omega) (by omega)) (fun e => hn ⟨hk0, e.symm⟩)
    have hlen : (compK l k).length = r.length + 1 := by rw [hr]; simp
    by_cases hi : i = r.length
    ·subst hi; rw [hr, getD_append_at]; exact hlast
    ·have h1 := ih i r.length (by omega) (by omega)
     have e : (compK l k).getD r.length [] = l.getD (k - 1) [] := by rw [hr, getD_append_at]
     rw [e] at h1
     exact cmpN_trans _ _ _ h1 hlast
def Oids (l : List (List Nat)) : Prop := ∀ o ∈ l, o.length = 32 ∧ Byte o
theorem Oids.getD {l : List (List Nat)} (h : Oids l) {i : Nat} (hi : i < l.length) : (l.getD i []).length = 32 ∧ Byte (l.getD i []) := by
 have e : l.getD i [] = l[i] := by simp [List.getD, hi]
 rw [e]; exact h _ (List.getElem_mem _)
theorem flat_len {l : List (List Nat)} (h : Oids l) : l.flatten.length = 32 * l.length := by
 induction l with
 | nil => rfl
 | cons a l ih =>
  rw [List.flatten_cons, List.length_append, (h a List.mem_cons_self).1, ih (fun o ho => h o (List.mem_cons_of_mem _ ho)), List.length_cons]; omega
theorem flat_getD : ∀ {l : List (List Nat)}, Oids l → ∀ {i j : Nat}, i < l.length → j < 32 → l.flatten.getD (32 * i + j) 0 = (l.getD i []).getD j 0
 | [], _, i, j, hi, _ => by simp at hi
 | a :: l, h, 0, j, _, hj => by
  rw [List.flatten_cons, Nat.mul_zero, Nat.zero_add, getD_append_lt (by rw [(h a List.mem_cons_self).1]; exact hj)]
  rfl
 | a :: l, h, i + 1, j, hi, hj => by
  have ih := flat_getD (l := l) (fun o ho => h o (List.mem_cons_of_mem _ ho)) (i := i) (by simpa using hi) hj
  have e := (h a List.mem_cons_self).1
  rw [List.flatten_cons, getD_append_ge (by omega), e, show 32 * (i + 1) + j - 32 = 32 * i + j by omega, ih]
  rfl
theorem Oids.set {l : List (List Nat)} (h : Oids l) {x : List Nat} (hx : x.length = 32 ∧ Byte x) (k : Nat) : Oids (l.set k x) := fun o ho => by
 rcases List.mem_or_eq_of_mem_set ho with h1 | rfl
 ·exact h o h1
 ·exact hx
theorem one_of {r : List (List Nat)} {a : List Nat} (hr : Rising r) (hm : ∀ x, x ∈ r ↔ x = a) : r = [a] := by
 have irr : ∀ x, ¬ cmpN x x < 0 := fun x h => by rw [cmpN_self] at h; omega
 match r, hr, hm with
 | [], _, hm => exact absurd ((hm a).2 rfl) (by simp)
 | [x], _, hm => rw [(hm x).1 (by simp)]
 | x :: y :: r, hr, hm =>
  have h1 := hr 0 1 (by omega) (by simp)
  simp only [List.getD_cons_zero, List.getD_cons_succ] at h1
  rw [(hm x).1 (by simp), (hm y).1 (by simp)] at h1
  exact absurd h1 (irr _)
end Sha
end Go.Proofs.YtgcgomdhdgjpdaaGreatDoor
