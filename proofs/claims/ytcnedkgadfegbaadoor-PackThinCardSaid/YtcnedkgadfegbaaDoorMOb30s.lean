/- object.read of any bytes; object.Parse. -/
import Derived.Test.YtcnedkgadfegbaaDoorMOb29
import Derived.Test.YtcnedkgadfegbaaDoorMHelds
import Derived.Lib.AppendZerosOnto
namespace Go.Proofs.YtcnedkgadfegbaaDoor
open Go Go.RowKit
theorem oread_any (i r : Nat) (xs : List Nat) (a : Nat → Addr) (w0 w : World) (h : InAt w0 w i r xs) (hb : Oc.bytes xs) (hz : xs.length ≤ 300) (hS : PSents w0 a) :
    Calls Tryd.prog 15 #[.pointer (some ⟨i, 0, none⟩)] w fun e w' => ReadPost xs a w0 w i r e w' := by
  obtain _ | ⟨c, ys⟩ := xs
  · exact oread_nil i r a w0 w h hS
  · by_cases h1 : c = 98
    · subst h1; exact oread_blob i r ys a w0 w h hb hz hS
    · by_cases h2 : c = 116
      · subst h2; exact oread_tree i r ys a w0 w h hb hz hS
      · by_cases h3 : c = 99
        · subst h3
          rcases Nat.lt_trichotomy ys.length 32 with h4 | h4 | h4
          · exact oread_commit0 i r ys a w0 w h hb hz hS h4
          · exact oread_commit1 i r ys a w0 w h hb hz hS h4
          · exact oread_commit i r ys a w0 w h hb hz hS h4
        · by_cases h4 : c = 103
          · subst h4
            rcases Nat.lt_or_ge ys.length 32 with h5 | h5
            · exact oread_tag0 i r ys a w0 w h hb hz hS h5
            · exact oread_tag i r ys a w0 w h hb hz hS h5
          · exact oread_kind i r c ys a w0 w h hb hz hS h1 h2 h3 h4
theorem ObO.up {m g : Nat} {w w' : World} {o : Ob} {cs : Array Value} {T E P : Option Addr} {tc ec pc : Nat} (h : ObO g w o cs T tc E ec P pc) (hm : m < g) (hg : w.grownBy w' (some m)) : ObO m w' o cs T tc E ec P pc :=
  ⟨h.cells, own_low (h.text.kept hg (own_far h.text hm)) (by omega), own_low (h.ents.kept hg (own_far h.ents hm)) (by omega), own_low (h.pars.kept hg (own_far h.pars hm)) (by omega)⟩
theorem obj_empty : Tryd.prog.built 37 [] = some zOc := by
  rw [built_of iobj_under obj_zero obj_places, zOc_cells]
  exact fill_done _ _
theorem read_enters (args : Array Value) (w : World) : (callFunc 15 args).run Tryd.prog w = .ok (.enter 15 args) w := by kernel_rfl
set_option maxRecDepth 100000 in
theorem oparse_ok (o : Ob) (xs : List Nat) (a : Nat → Addr) (v : Value) (w : World) (hv : Rd w v xs) (hb : Oc.bytes xs) (hz : xs.length ≤ 300) (hS : PSents w a) (hp : Ob.parse xs = .ok o) :
    Calls Tryd.prog 9 #[v] w fun e w' => ∃ cs T tc E ec P pc, e = .returned (.tuple #[.agg cs, .nilIface]) ∧ o.Fit ∧ o.Held ∧ ObO w.heap.size w' o cs T tc E ec P pc ∧ Below w.heap.size w w' := by
  have hv0 := hv
  obtain ⟨A, c, rfl, _⟩ := hv0
  have hwa : Below w.heap.size w (w.alloc (.cells zOc 37)) := (Below.refl _ _).alloc (Nat.le_refl _) _
  have CT := takeO_ok 15 #[] w (w.alloc (.cells zOc 37)) A xs.length c xs (fun m cs w' => ∃ T tc E ec P pc, o.Fit ∧ o.Held ∧ ObO m w' o cs T tc E ec P pc) read_enters hwa hv
    (fun w2 i r _ _ hi _ => (oread_any i r xs a w w2 hi hb hz hS).mono fun e w' hq => by
      obtain ⟨cs, T, tc, E, ec, P, pc, he, h1, h2, h3, h4, h5⟩ := hq.2 o hp
      refine ⟨cs, he, ?_, h3.one, h4, h5, T, tc, E, ec, P, pc, h1, h2, h3⟩
      rw [h3.cells, cellsOb_size _ _ _ _ _ h1.target.1])
    (fun m cs x y ⟨T, tc, E, ec, P, pc, h1, h2, h3⟩ hk => ⟨T, tc, E, ec, P, pc, h1, h2, h3.kept hk⟩)
  have HWA := Lib.hid hwa
  have i1 : ¬ ((xs.length : Int) > 300) := by omega
  clear hwa hv hb hz hS hp
  go_enter Tryd.func9, Tryd.ntmps9
  go_wp2_with (go_at_call 14; refine pause ?_)
  unfold Paused
  change Calls _ _ _ (w.alloc (.cells zOc 37)) _
  refine CT.mono ?_
  rintro e w3 ⟨cs, m, rfl, hs, hm, ⟨T, tc, E, ec, P, pc, hf, hd, ho⟩, hb3⟩
  have HM : Hid (w.heap.size < m) := Lib.hid (by have h := hm; simp at h; omega)
  have HS3 := Lib.hid hs
  have HF := Lib.hid hf
  have HD := Lib.hid hd
  have HO := Lib.hid ho
  have HB3 : Hid (Below w.heap.size w w3) := Lib.hid (HWA.out.trans (hb3.mono (by simp)))
  have HZ3 : Hid (Blk w3 w.heap.size 37 zOc) := Lib.hid ((Blk.new w 37 zOc).below hb3 (by simp))
  clear hs hf hd ho hb3 hm CT
  go_wp2_with (with_reducible (show wpList _ _ _ (Oper.mk _ (Op.store 37 _ _) _ _ _ _ :: _) _ _); refine pause ?_)
  unfold Paused
  refine wpList_store_row (by rfl) 37 (.tmp 2) (.tmp 11) (by rfl) w.heap.size cs (by rfl) (by rfl) 37 zOc HZ3.out (by rw [HS3.out]; kernel_rfl) (by rw [HS3.out]; rfl) (ObO.one HO.out) ?_
  have HR := Lib.hid (HZ3.out.row cs)
  have HG : Hid (w3.grownBy (w3.setRow w.heap.size cs) (some w.heap.size)) := Lib.hid (only_setRow (World.grownBy.refl w3 _) (Or.inl rfl) _)
  have HB : Hid (Below w.heap.size w (w3.setRow w.heap.size cs)) := Lib.hid (below_row HB3.out (Nat.le_refl _) _)
  generalize w3.setRow w.heap.size cs = w4 at HR HG HB ⊢
  go_wp2
  exact bodyPost_ret (v := .tuple #[.agg cs, .nilIface]) (resultsO2 (t := 2) (s := 3) rfl (by rfl) HR.out HS3.out) rfl ⟨cs, T, tc, E, ec, P, pc, rfl, HF.out, HD.out, HO.out.up HM.out HG.out, HB.out⟩
set_option maxRecDepth 100000 in
theorem oparse_bad (n : Nat) (xs : List Nat) (a : Nat → Addr) (v : Value) (w : World) (hv : Rd w v xs) (hb : Oc.bytes xs) (hz : xs.length ≤ 300) (hS : PSents w a) (hp : Ob.parse xs = .bad n) :
    Calls Tryd.prog 9 #[v] w fun e w' => e = .returned (.tuple #[.agg zOc, ev (a (n - 1))]) ∧ Below w.heap.size w w' := by
  have hv0 := hv
  obtain ⟨A, c, rfl, _⟩ := hv0
  have hwa : Below w.heap.size w (w.alloc (.cells zOc 37)) := (Below.refl _ _).alloc (Nat.le_refl _) _
  have CT := takeO_bad 15 #[] w (w.alloc (.cells zOc 37)) A xs.length c xs (a (n - 1)) read_enters hwa hv
    (fun w2 i r _ _ hi _ => (oread_any i r xs a w w2 hi hb hz hS).mono fun e w' hq => hq.1 n hp)
  have HWA := Lib.hid hwa
  have i1 : ¬ ((xs.length : Int) > 300) := by omega
  clear hwa hv hb hz hS hp
  go_enter Tryd.func9, Tryd.ntmps9
  go_wp2_with (go_at_call 14; refine pause ?_)
  unfold Paused
  change Calls _ _ _ (w.alloc (.cells zOc 37)) _
  refine CT.mono ?_
  rintro e w3 ⟨rfl, hb3⟩
  have HB3 : Hid (Below w.heap.size w w3) := Lib.hid (HWA.out.trans (hb3.mono (by simp)))
  have HZ3 : Hid (Blk w3 w.heap.size 37 zOc) := Lib.hid ((Blk.new w 37 zOc).below hb3 (by simp))
  clear hb3 CT
  go_wp2_with (with_reducible (show wpList _ _ _ (Oper.mk _ (Op.store 37 _ _) _ _ _ _ :: _) _ _); refine pause ?_)
  unfold Paused
  refine wpList_store_row (by rfl) 37 (.tmp 2) (.tmp 11) (by rfl) w.heap.size zOc (by rfl) (by rfl) 37 zOc HZ3.out (by kernel_rfl) (by rfl) (by kernel_rfl) ?_
  have HR := Lib.hid (HZ3.out.row zOc)
  have HB : Hid (Below w.heap.size w (w3.setRow w.heap.size zOc)) := Lib.hid (below_row HB3.out (Nat.le_refl _) _)
  generalize w3.setRow w.heap.size zOc = w4 at HR HB ⊢
  go_wp2
  exact bodyPost_ret (v := .tuple #[.agg zOc, ev (a (n - 1))]) (resultsO2 (t := 2) (s := 3) rfl (by rfl) HR.out (by kernel_rfl)) rfl ⟨rfl, HB.out⟩
set_option maxRecDepth 100000 in
theorem oparse_large (aG : Addr) (xs : List Nat) (v : Value) (w : World) (hv : Rd w v xs) (hz : 300 < xs.length) (hS : w.cell? ⟨0, 0, none⟩ = some (ev aG)) :
    Calls Tryd.prog 9 #[v] w fun e w' => e = .returned (.tuple #[.agg zOc, ev aG]) ∧ Below w.heap.size w w' := by
  obtain ⟨A, c, rfl, _⟩ := hv
  have hm : Tryd.prog.follows .mixedOrders = true := by kernel_rfl
  obtain ⟨w6, hw6⟩ : ∃ w6, w6 = w.alloc (.cells zOc 37) := ⟨_, rfl⟩
  have HWA : Hid (Below w.heap.size w w6) := Lib.hid (hw6 ▸ (Below.refl _ _).alloc (Nat.le_refl _) _)
  have HZ6 : Hid (Blk w6 w.heap.size 37 zOc) := Lib.hid (hw6 ▸ Blk.new w 37 zOc)
  have pL : w6.cell? ⟨0, 0, none⟩ = some (ev aG) := (HWA.out.cell (block_lt_of_cell hS)).trans hS
  have e2 := hw6.symm
  have i1 : (xs.length : Int) > 300 := by omega
  clear hS hz hw6
  go_enter Tryd.func9, Tryd.ntmps9
  go_wp2
  refine wp_region_held (S := fun w' => w' = w6.drew) hm ?_
  change wpAnyH _ _ _ _ _ _ _ _ (w.alloc (.cells zOc 37)).drew
  rw [e2]
  refine wpAnyH_take (i := 1) (v := ?_) rfl (by kernel_rfl) (by kernel_rfl) (by kernel_rfl) (fun _ _ _ h => h) (Or.inl ⟨by rfl, ?_⟩) rfl ?_
  rotate_left
  · rintro w' rfl; go_simp; with_reducible rfl
  try simp only [Act.put, List.getElem_toArray, List.getElem_cons_zero, List.getElem_cons_succ, List.setIfInBounds_toArray, List.set_cons_zero, List.set_cons_succ]
  refine all_one (i := 0) (by kernel_rfl) rfl (by rfl) (fun K hK => ?_)
  refine wp_buildK 37 _ (by rfl) [] (by simp) zOc obj_empty ?_
  refine hK _ _ rfl ?_
  try simp only [Act.put, List.getElem_toArray, List.getElem_cons_zero, List.setIfInBounds_toArray, List.set_cons_zero, List.set_cons_succ]
  refine all_one (i := 2) (by kernel_rfl) rfl (by rfl) (fun K hK => ?_)
  refine wp_store_row 37 (.tmp 2) (.tmp 7) (by rfl) w.heap.size zOc (by rfl) (by rfl) 37 zOc HZ6.out.drew (by kernel_rfl) (by rfl) (by kernel_rfl) ?_
  rw [setRow_self w6.drew w.heap.size zOc 37 (0, 0) HZ6.out.drew]
  refine hK _ _ rfl ?_
  try simp only [Act.put, List.getElem_toArray, List.getElem_cons_zero, List.getElem_cons_succ]
  refine all_one (i := 3) (by kernel_rfl) rfl (by rfl) (fun K hK => ?_)
  go_simp
  refine hK _ _ rfl ?_
  try simp only [Act.put, List.getElem_toArray, List.getElem_cons_zero, List.getElem_cons_succ, List.setIfInBounds_toArray, List.set_cons_zero, List.set_cons_succ]
  refine wpAnyH_done (by kernel_rfl) ?_ _
  clear pL
  go_wp2
  exact bodyPost_ret (v := .tuple #[.agg zOc, ev aG]) (resultsO2 (t := 2) (s := 3) rfl (by rfl) HZ6.out.drew (by kernel_rfl)) rfl ⟨rfl, below_drewN HWA.out 1⟩
end Go.Proofs.YtcnedkgadfegbaaDoor
/- An object that is right is what its bytes are parsed as; bytes that are an object are its bytes. -/
namespace Go.Proofs.YtcnedkgadfegbaaDoor
open Go Go.RowKit
theorem textOf_strB (s : ByteArray) : textOf (strB s) = s := by
  unfold textOf strB
  rw [List.map_map]
  have : (UInt8.ofNat ∘ UInt8.toNat) = id := by funext x; simp
  rw [this, List.map_id]
theorem strB_textOf (l : List Nat) (h : Oc.bytes l) : strB (textOf l) = l := by
  unfold textOf strB
  show ((l.map UInt8.ofNat).toArray.toList).map UInt8.toNat = l
  rw [List.toList_toArray, List.map_map]
  conv => rhs; rw [← List.map_id l]
  exact List.map_congr_left fun x hx => by
    have := h x hx
    show (UInt8.ofNat x).toNat = x
    rw [UInt8.toNat_ofNat']
    exact Nat.mod_eq_of_lt (by simpa using this)
theorem entB_cons (e : Ent) (ys : List Nat) : entB e ++ ys = e.name.size :: (strB e.name ++ (e.id ++ ys)) := by simp [entB]
theorem entsOf_laid : ∀ (fs es : List Ent), (∀ e ∈ fs, Id32 e.id) → entsOf es (fs.flatMap entB) = some (es ++ fs)
  | [], es, _ => by rw [List.append_nil]; exact entsOf_nil es
  | e :: fs, es, h => by
    have h1 := h e (List.mem_cons_self ..)
    have hs : (strB e.name).length = e.name.size := strB_len e.name
    rw [List.flatMap_cons, entB_cons, entsOf_next (by rw [List.length_append, List.length_append, hs, h1.1]; omega)]
    have e1 : entOf e.name.size (strB e.name ++ (e.id ++ fs.flatMap entB)) = e := by
      unfold entOf
      rw [List.take_left' hs, List.drop_left' hs, List.take_left' h1.1, textOf_strB]
    have e2 : (strB e.name ++ (e.id ++ fs.flatMap entB)).drop (e.name.size + 32) = fs.flatMap entB := by
      rw [← List.drop_drop, List.drop_left' hs, List.drop_left' h1.1]
    rw [e1, e2, entsOf_laid fs _ (fun x hx => h x (List.mem_cons_of_mem _ hx)), List.append_assoc]
    rfl
theorem entsGo_back : ∀ (f : Nat) (es fs : List Ent) (ys : List Nat), Oc.bytes ys → entsGo f es ys = some fs → ∃ gs : List Ent, fs = es ++ gs ∧ gs.flatMap entB = ys
  | f, es, fs, [], _, h => by
    have : some es = some fs := by cases f <;> exact h
    exact ⟨[], by rw [List.append_nil]; exact (Option.some.inj this).symm, rfl⟩
  | 0, _, _, _ :: _, _, h => by cases h
  | f + 1, es, fs, n :: ys, hb, h => by
    unfold entsGo at h
    by_cases hl : ys.length < n + 32
    · rw [if_pos hl] at h; cases h
    · rw [if_neg hl] at h
      have hy := bytes_tail hb
      obtain ⟨gs, h1, h2⟩ := entsGo_back f _ fs _ (Oc.bytes_drop hy (n + 32)) h
      refine ⟨entOf n ys :: gs, by rw [h1, List.append_assoc]; rfl, ?_⟩
      have hn : (entOf n ys).name.size = n := by
        show (textOf (ys.take n)).size = n
        rw [textOf_size, List.length_take]; omega
      rw [List.flatMap_cons, entB_cons, hn, h2]
      show n :: (strB (textOf (ys.take n)) ++ ((ys.drop n).take 32 ++ ys.drop (n + 32))) = n :: ys
      rw [strB_textOf _ (Oc.bytes_take hy n), ← List.drop_drop, List.take_append_drop, List.take_append_drop]
theorem parsGo_laid : ∀ (qs ps : List (List Nat)) (t : List Nat), (∀ q ∈ qs, Id32 q) → parsGo qs.length ps (qs.flatten ++ t) = some (ps ++ qs, t)
  | [], ps, t, _ => by rw [List.append_nil]; rfl
  | q :: qs, ps, t, h => by
    have h1 := h q (List.mem_cons_self ..)
    rw [List.length_cons, parsGo, if_neg (by rw [List.flatten_cons, List.length_append, List.length_append, h1.1]; omega), List.flatten_cons, List.append_assoc, List.take_left' h1.1, List.drop_left' h1.1, parsGo_laid qs _ t (fun x hx => h x (List.mem_cons_of_mem _ hx)), List.append_assoc]
    rfl
theorem parsGo_back : ∀ (n : Nat) (ps : List (List Nat)) (ys : List Nat) (q : List (List Nat) × List Nat), parsGo n ps ys = some q → ∃ gs : List (List Nat), q.1 = ps ++ gs ∧ gs.length = n ∧ gs.flatten ++ q.2 = ys
  | 0, ps, ys, q, h => by
    obtain rfl : (ps, ys) = q := Option.some.inj h
    exact ⟨[], (List.append_nil _).symm, rfl, rfl⟩
  | n + 1, ps, ys, q, h => by
    unfold parsGo at h
    by_cases hl : ys.length < 32
    · rw [if_pos hl] at h; cases h
    · rw [if_neg hl] at h
      obtain ⟨gs, h1, h2, h3⟩ := parsGo_back n _ _ q h
      exact ⟨ys.take 32 :: gs, by rw [h1, List.append_assoc]; rfl, by rw [List.length_cons, h2], by rw [List.flatten_cons, List.append_assoc, h3, List.take_append_drop]⟩
theorem fin_ok {o x : Ob} (h : Prs.fin o = .ok x) : x = o ∧ o.right = true := by
  unfold Prs.fin at h
  cases hr : o.right with
  | true => rw [hr, if_pos rfl] at h; injection h with h; exact ⟨h.symm, rfl⟩
  | false => rw [hr, if_neg (by simp)] at h; cases h
theorem fin_of {o : Ob} (h : o.right = true) : Prs.fin o = .ok o := by
  unfold Prs.fin
  rw [h, if_pos rfl]
theorem right_parts {o : Ob} (h : o.right = true) : 1 ≤ o.kind ∧ o.kind ≤ 4 ∧ (o.kind = 2 → o.text = []) ∧ (o.kind ≠ 2 → o.ents = []) ∧ (aimsB o.kind = false → o.target = zid) ∧ (o.kind ≠ 3 → o.pars = []) := by
  unfold Ob.right at h
  simp only [Bool.and_eq_true, decide_eq_true_eq] at h
  obtain ⟨h1, h2, h3, _⟩ := h
  unfold Ob.strange at h3
  rw [Bool.not_eq_true', Bool.or_eq_false_iff, Bool.or_eq_false_iff, Bool.or_eq_false_iff] at h3
  obtain ⟨⟨⟨a1, a2⟩, a3⟩, a4⟩ := h3
  refine ⟨h1, h2, fun k => ?_, fun k => ?_, fun k => ?_, fun k => ?_⟩
  · simp [k] at a1; exact a1
  · simp [k] at a2; exact a2
  · rw [k] at a3
    simp at a3
    exact eqv_iff.1 a3
  · simp [k] at a4; exact a4
theorem laid_parse {o : Ob} (hf : o.Fit) (hr : o.right = true) : Ob.parse (o.front ++ o.text) = .ok o := by
  obtain ⟨h1, h2, h3, h4, h5, h6⟩ := right_parts hr
  obtain ⟨k, t, es, g, ps⟩ := o
  simp only at h1 h2 h3 h4 h5 h6
  have hk : k = 1 ∨ k = 2 ∨ k = 3 ∨ k = 4 := by omega
  have hg : g.length = 32 := hf.target.1
  rcases hk with rfl | rfl | rfl | rfl
  · obtain rfl := h4 (by decide)
    obtain rfl := h5 (by decide)
    obtain rfl := h6 (by decide)
    exact fin_of hr
  · obtain rfl := h3 rfl
    obtain rfl := h5 (by decide)
    obtain rfl := h6 (by decide)
    have e : Ob.front ⟨2, [], es, zid, []⟩ ++ [] = 116 :: es.flatMap entB := by simp [Ob.front, letterN, aimsB]
    rw [show (Ob.text ⟨2, [], es, zid, []⟩) = [] from rfl, e, tr_parse, entsOf_laid es [] hf.ents]
    exact fin_of hr
  · obtain rfl := h4 (by decide)
    have e : Ob.front ⟨3, t, [], g, ps⟩ ++ t = 99 :: (g ++ (ps.length :: (ps.flatten ++ t))) := by simp [Ob.front, letterN, aimsB]
    rw [show (Ob.text ⟨3, t, [], g, ps⟩) = t from rfl, e, cm_parse _ (by rw [List.length_append, hg, List.length_cons]; omega)]
    have e1 : (g ++ (ps.length :: (ps.flatten ++ t))).take 32 = g := List.take_left' hg
    have e2 : (g ++ (ps.length :: (ps.flatten ++ t))).getD 32 0 = ps.length := by
      rw [List.getD_eq_getElem?_getD, List.getElem?_append_right (by omega), hg]; rfl
    have e3 : (g ++ (ps.length :: (ps.flatten ++ t))).drop 33 = ps.flatten ++ t := by
      rw [show (33 : Nat) = 32 + 1 from rfl, ← List.drop_drop, List.drop_left' hg]; rfl
    rw [e1, e2, e3, parsGo_laid ps [] t hf.pars]
    exact fin_of hr
  · obtain rfl := h4 (by decide)
    obtain rfl := h6 (by decide)
    have e : Ob.front ⟨4, t, [], g, []⟩ ++ t = 103 :: (g ++ t) := by simp [Ob.front, letterN, aimsB]
    rw [show (Ob.text ⟨4, t, [], g, []⟩) = t from rfl, e]
    show (if (g ++ t).length < 32 then Prs.bad 2 else Prs.fin ⟨4, (g ++ t).drop 32, [], (g ++ t).take 32, []⟩) = _
    rw [if_neg (by rw [List.length_append]; omega), List.take_left' hg, List.drop_left' hg]
    exact fin_of hr
theorem parse_laid {xs : List Nat} {o : Ob} (hb : Oc.bytes xs) (h : Ob.parse xs = .ok o) : o.front ++ o.text = xs ∧ o.right = true := by
  obtain _ | ⟨c, ys⟩ := xs
  · cases h
  have hy := bytes_tail hb
  unfold Ob.parse at h
  dsimp only at h
  by_cases h1 : c = 98
  · rw [if_pos h1] at h
    obtain ⟨rfl, hr⟩ := fin_ok h
    subst h1
    exact ⟨by simp [Ob.front, letterN, aimsB], hr⟩
  · rw [if_neg h1] at h
    by_cases h2 : c = 116
    · rw [if_pos h2] at h
      cases hq : entsOf [] ys with
      | none => rw [hq] at h; cases h
      | some es =>
        rw [hq] at h
        obtain ⟨rfl, hr⟩ := fin_ok h
        obtain ⟨gs, e1, e2⟩ := entsGo_back _ _ _ _ hy hq
        rw [List.nil_append] at e1
        subst e1 h2
        exact ⟨by simp [Ob.front, letterN, aimsB, e2], hr⟩
    · rw [if_neg h2] at h
      by_cases h3 : c = 99
      · rw [if_pos h3] at h
        by_cases h4 : ys.length < 33
        · rw [if_pos h4] at h; cases h
        · rw [if_neg h4] at h
          cases hq : parsGo (ys.getD 32 0) [] (ys.drop 33) with
          | none => rw [hq] at h; cases h
          | some q =>
            rw [hq] at h
            obtain ⟨rfl, hr⟩ := fin_ok h
            obtain ⟨gs, e1, e2, e3⟩ := parsGo_back _ _ _ _ hq
            rw [List.nil_append] at e1
            subst h3
            refine ⟨?_, hr⟩
            have e4 : Ob.front ⟨3, q.2, [], ys.take 32, q.1⟩ ++ q.2 = 99 :: (ys.take 32 ++ (q.1.length :: (q.1.flatten ++ q.2))) := by simp [Ob.front, letterN, aimsB]
            rw [e4, e1, e2, e3, ← drop_at (k := 32) (by omega), List.take_append_drop]
      · rw [if_neg h3] at h
        by_cases h4 : c = 103
        · rw [if_pos h4] at h
          by_cases h5 : ys.length < 32
          · rw [if_pos h5] at h; cases h
          · rw [if_neg h5] at h
            obtain ⟨rfl, hr⟩ := fin_ok h
            subst h4
            refine ⟨?_, hr⟩
            have e4 : Ob.front ⟨4, ys.drop 32, [], ys.take 32, []⟩ ++ ys.drop 32 = 103 :: (ys.take 32 ++ ys.drop 32) := by simp [Ob.front, letterN, aimsB]
            rw [e4, List.take_append_drop]
        · rw [if_neg h4] at h; cases h
theorem lkpars_len (ps : List (List Nat)) (h : ∀ p ∈ ps, Id32 p) : ps.flatten.length = 32 * ps.length := by
  induction ps with
  | nil => rfl
  | cons p ps ih =>
    rw [List.flatten_cons, List.length_append, (h p (List.mem_cons_self ..)).1, ih (fun x hx => h x (List.mem_cons_of_mem _ hx)), List.length_cons]
    omega
theorem lkents_len (es : List Ent) (h : ∀ e ∈ es, Id32 e.id) : 32 * es.length ≤ (es.flatMap entB).length := by
  induction es with
  | nil => exact Nat.zero_le _
  | cons e es ih =>
    have h1 := ih (fun x hx => h x (List.mem_cons_of_mem _ hx))
    have h2 := (h e (List.mem_cons_self ..)).1
    rw [List.flatMap_cons, entB_cons, List.length_cons, List.length_cons, List.length_append, List.length_append]
    omega
theorem links_small {o : Ob} (hf : o.Fit) : 32 * o.links.length ≤ (o.front ++ o.text).length := by
  have h1 := lkents_len o.ents hf.ents
  have h2 := lkpars_len o.pars hf.pars
  have h3 : (if aimsB o.kind then o.target else []).length = 32 * (if aimsB o.kind then [o.target] else []).length := by
    split
    · rw [hf.target.1]; rfl
    · rfl
  unfold Ob.links Ob.front
  simp only [List.length_append, List.length_map, List.length_singleton] at h1 h2 h3 ⊢
  omega
theorem blob_links {o : Ob} (h : o.right = true) (hk : o.kind = 1) : o.links.length = 0 := by
  obtain ⟨_, _, _, h4, _, h6⟩ := right_parts h
  unfold Ob.links
  rw [h4 (by omega), h6 (by omega), hk]
  rfl
theorem strB_bytes (s : ByteArray) : Oc.bytes (strB s) := fun x hx => by
  obtain ⟨u, _, rfl⟩ := List.mem_map.1 hx
  exact u.toNat_lt
theorem byte_all {xs : List Nat} (h : Sha.Byte xs) : Oc.bytes xs := fun x hx => by
  obtain ⟨i, hi, rfl⟩ := List.mem_iff_getElem.1 hx
  have := h i
  rwa [List.getD, List.getElem?_eq_getElem hi] at this
theorem laid_bytes {o : Ob} (hf : o.Fit) (hr : o.right = true) : Oc.bytes (o.front ++ o.text) := by
  obtain ⟨hn, _⟩ := right_near hr
  intro x hx
  unfold Ob.front at hx
  simp only [List.mem_append] at hx
  rcases hx with ((((hx | hx) | hx) | hx) | hx) | hx
  · rw [List.mem_singleton.1 hx]
    unfold letterN
    split
    · decide
    · split
      · decide
      · split <;> decide
  · obtain ⟨e, he, hx⟩ := List.mem_flatMap.1 hx
    unfold entB at hx
    simp only [List.mem_append] at hx
    rcases hx with (hx | hx) | hx
    · rw [List.mem_singleton.1 hx]; have := hn.names e he; omega
    · exact strB_bytes _ x hx
    · exact byte_all (hf.ents e he).2 x hx
  · split at hx
    · exact byte_all hf.target.2 x hx
    · cases hx
  · split at hx
    · rw [List.mem_singleton.1 hx]; have := hn.pars; omega
    · cases hx
  · obtain ⟨p, hp, hx⟩ := List.mem_flatten.1 hx
    exact byte_all (hf.pars p hp).2 x hx
  · exact byte_all hf.text x hx
end Go.Proofs.YtcnedkgadfegbaaDoor
/- append(s, make([]byte, k)...) onto a row of the call's own. -/
namespace Go.Proofs.YtcnedkgadfegbaaDoor
open Go Go.RowKit
theorem zeroCells_u8 (k : Nat) : Builtin.zeroCells #[Value.int .u8 0] k = (cellsB (List.replicate k 0)).toArray := by
  apply Array.ext
  · simp [Builtin.zeroCells, cellsB]
  · intro i h1 h2
    simp only [Builtin.zeroCells, Array.getElem_map, Array.getElem_range, cellsB, List.map_replicate, List.getElem_toArray, List.getElem_replicate]
    have : i % 1 = 0 := Nat.mod_one i
    simp [this]
theorem append_zerosB (base : Nat) (v : Value) (ys : List Nat) (k : Nat) (ty : TypeId) (w : World) (hown : w.ownsRow base 5 1 v ys.length (cellsB ys)) (hk : ys.length + k ≤ 1000000) (hnn : v ≠ .slice none 0 0) (hbase : base ≤ w.heap.size) :
    ∃ v' w', (Builtin.append_ #[22, 3] ty #[v, .int .i64 (k : Int)]).run Tryd.prog w = .ok v' w' ∧ w'.ownsRow base 5 1 v' (ys ++ List.replicate k 0).length (cellsB (ys ++ List.replicate k 0)) ∧ w.grownBy w' v.ownBlock := by
  obtain ⟨i0, hi0, hiz, his, hib⟩ := info_parts byte_info
  have e0 : cellsB (ys ++ List.replicate k 0) = cellsB ys ++ cellsB (List.replicate k 0) := by simp [cellsB]
  have el : (ys ++ List.replicate k 0).length = ys.length + k := by simp
  rw [e0, el]
  have hw : IntKind.i64.wrap (k : Int) = k := IntWalk.i64_in _ (by omega)
  have hw0 : IntKind.i64.wrap 0 = 0 := by decide
  have hneg : ¬ ((k : Int) < 0) := by omega
  have h48 : ¬ ((281474976710656 : Int) < (k : Int)) := by omega
  rcases hown.2 with ⟨rfl, hn0⟩ | ⟨g, cap, cur, rfl, hbg, hg, hnc, hcm, hcs, htake⟩
  · exact absurd rfl hnn
  · by_cases hroom : ys.length + k ≤ cap
    · have hst := run_storeCells_at Tryd.prog g (ys.length * 1) 5 (cellsB (List.replicate k 0)) 0 cur w hg (by rw [cellsB_len, List.length_replicate, hcs]; omega) (cellsB_one _)
      simp only [Nat.add_zero] at hst
      refine ⟨.slice (some ⟨g, 0, none⟩) (ys.length + k) cap, w.setRow g (cur.toList.take (ys.length * 1) ++ cellsB (List.replicate k 0) ++ cur.toList.drop (ys.length * 1 + (cellsB (List.replicate k 0)).length)).toArray, ?_, ⟨by simp [cellsB], .inr ⟨g, cap, _, rfl, hbg, setRow_heap w g cur _ 5 _ hg, hroom, hcm, ?_, ?_⟩⟩, ⟨rfl, rfl, rfl, by simp, fun j _ hj => setRow_other w g j _ (fun e => hj (by simp [Value.ownBlock, e]))⟩⟩
      · rcases Nat.eq_zero_or_pos k with rfl | hpos
        · simp only [List.replicate_zero, cellsB, List.map_nil] at hst
          simp [Builtin.append_, run_underlying Tryd.underlying22, run_underlying Tryd.underlying3, sizeOf, typeInfo, hi0, his, hib, asInt, asIntOf, hw0, hnc, Addr.add_lit, cellsB]
          simp at hst
          simp [hst]
        · have hz : ¬ (k = 0) := by omega
          simp [Builtin.append_, run_underlying Tryd.underlying22, run_underlying Tryd.underlying3, sizeOf, typeInfo, zeroValue, hi0, hiz, his, hib, asInt, asIntOf, hw, hneg, h48, hroom, hz, Addr.add_lit, Value.cells, zeroCells_u8]
          simp at hst
          simp [hst]
      · simp only [List.size_toArray, List.length_append, List.length_take, List.length_drop, Array.length_toList, cellsB_len, List.length_replicate]
        omega
      · have hlen : (cellsB ys ++ cellsB (List.replicate k 0)).length = (ys.length + k) * 1 := by simp [cellsB]
        rw [htake, ← hlen]
        exact List.take_left
    · have holds : (Builtin.firstCells i0.size ys.length (.slice (some ⟨g, 0, none⟩) ys.length cap)).run Tryd.prog w.drew = .ok (cellsB ys).toArray w.drew :=
        run_firstCells_some (P := Tryd.prog) w.drew i0.size ys.length ⟨g, 0, none⟩ ys.length cap (cellsB ys) (by rw [cellsB_len, his]; omega) (fun j u hj => by
          have h := hown.cells (g := g) rfl j u hj
          exact h)
      have hr := Lib.run_append_grow_zeros (P := Tryd.prog) w 22 3 ty 5 i0 _ .i64 .i64 Tryd.underlying22 Tryd.underlying3 hi0 hiz (some ⟨g, 0, none⟩) ys.length cap (cellsB ys) holds k (by omega) (by rw [his]; decide) (by omega) (by omega) (by rw [hib]; omega) (by
        rw [hib]
        have := nextslicecap_le (need := ys.length + k) (old := cap) (by omega)
        omega)
      have hge := grownCap_ge w (ys.length + k) cap 5
      refine ⟨_, _, hr, ⟨by simp [cellsB], .inr ⟨w.heap.size, _, _, rfl, hbase, heap_alloc_new w.drew _, hge, grownCap_le_maxLen w (ys.length + k) cap 5 (by unfold maxLen; omega), ?_, ?_⟩⟩, ⟨rfl, rfl, rfl, by simp, fun j hj _ => Below.heap_alloc w.drew _ j hj⟩⟩
      · simp only [Array.size_append, size_zeroCells, Value.cells, List.size_toArray, cellsB_len]
        simp
        omega
      · have hlen : (cellsB ys ++ cellsB (List.replicate k 0)).length = (ys.length + k) * 1 := by simp [cellsB]
        simp only [Value.cells, zeroCells_u8, Array.toList_append]
        rw [← hlen]
        exact List.take_left
end Go.Proofs.YtcnedkgadfegbaaDoor
