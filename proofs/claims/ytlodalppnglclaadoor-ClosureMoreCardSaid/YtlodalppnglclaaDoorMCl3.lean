/- What stands at an id: closure's look. -/
import Derived.Test.YtlodalppnglclaaDoorMMapRs
import Derived.Test.YtlodalppnglclaaDoorMOb30s
import Derived.Test.YtlodalppnglclaaDoorMUpto
import Derived.Test.YtlodalppnglclaaDoorMOb29
import Derived.Test.YtlodalppnglclaaDoorMOb20ns
namespace Go.Proofs.YtlodalppnglclaaDoor
open Go Go.RowKit
/-- the error values that layer 9's calls meet -/
structure CSents (w : World) (a : Nat → Addr) : Prop where
  p : PSents w a
  g : w.cell? ⟨2, 0, none⟩ = some (ev (a 12))
theorem CSents.at_ {w0 w : World} {a : Nat → Addr} (h : CSents w0 a) (hb : Below w0.heap.size w0 w) : CSents w a :=
  ⟨h.p.at_ hb, (hb.cell (block_lt_of_cell h.g)).trans h.g⟩
def ndC (b : Bool) (k : Int) (v : Value) : Array Value := #[.bool b, .int .i64 k, v]
theorem nd_built3 (b : Bool) (k : Int) (A : Option Addr) (n c : Nat) : Tryd.prog.built 68 [(0, .bool b), (1, .int .i64 k), (2, .slice A n c)] = some (ndC b k (.slice A n c)) := by kernel_rfl
theorem nd_built1 (b : Bool) : Tryd.prog.built 68 [(0, .bool b)] = some (ndC b 0 (.slice none 0 0)) := by kernel_rfl
theorem nd_size : (Tryd.prog.info? 68).map (·.size) = some 3 := by kernel_rfl
theorem cl_obj36 {cs : Array Value} (h : cs.size = 36) : (Tryd.prog.info? 50).map (·.size) = some cs.size := by rw [h]; kernel_rfl
theorem nd_one (b : Bool) (k : Int) (A : Option Addr) (n c : Nat) : (ndC b k (.slice A n c)).all (·.oneCell') = true := by simp [ndC, Value.oneCell']
theorem parse_small {t : List Nat} {o : Ob} (hb : Oc.bytes t) (hp : Ob.parse t = .ok o) : o.ents.length ≤ 1000 ∧ o.pars.length ≤ 1000 := by
  obtain ⟨_, hr⟩ := parse_laid hb hp
  obtain ⟨nr, _⟩ := right_near hr
  exact ⟨by have := nr.ents; omega, by have := nr.pars; omega⟩
/-- how look ends -/
def LookPost (w : World) (objs : List (List Nat)) (id : List Nat) (e : Ending) (w' : World) : Prop :=
  ∃ v, e = .returned (.agg (ndC (Cl.the objs id) (Cl.knd objs id) v)) ∧ w'.ownsRow w.heap.size 37 32 v (Cl.lks objs id).length (cellsP (Cl.lks objs id)) ∧ Below w.heap.size w w'
theorem look_res {fn : Func} {t : Tmp} (hr : fn.results = #[.cell t 68]) {tmps : Array Value} {W : World} {g : Nat} {cs : Array Value} (h4 : tmps.getD t undef = .pointer (some ⟨g, 0, none⟩)) (hb : Blk W g 68 cs) (hs : cs.size = 3) :
    (results fn tmps).run Tryd.prog W = .ok (.agg cs) W := by
  have hl : (loadVar 68 ⟨g, 0, none⟩).run Tryd.prog W = .ok (.agg cs) W := run_loadVar_row W g 68 68 cs (0, 0) _ hb Tryd.underlying68 (by rfl) (by rw [hs]; exact nd_size)
  simp only [Array.getD_eq_getD_getElem?] at h4
  simp [results, hr, h4, asAddr, hl]
set_option maxRecDepth 100000 in
set_option maxHeartbeats 4000000 in
/-- look, where the text at the id is no object -/
theorem look_none (m nm : Nat) (f : List Nat → Option Value) (id : List Nat) (A : Option Addr) (n c : Nat) (b : Bool) (ae : Addr) (w : World) (hm : MapO w m nm f) (hid : Id32 id) (hf : (f id).getD (.slice none 0 0) = .slice A n c) (hb : (f id).isSome = b)
    (hP : ∀ w', Below w.heap.size w w' → Calls Tryd.prog 54 #[.slice A n c] w' fun e w'' => e = .returned (.tuple #[.agg zOc, ev ae]) ∧ Below w'.heap.size w' w'') :
    Calls Tryd.prog 40 #[.map (some m), .agg (u8s id)] w fun e w' => e = .returned (.agg (ndC b 0 (.slice none 0 0))) ∧ Below w.heap.size w w' := by
  obtain ⟨w2, hw2⟩ : ∃ w2, w2 = (w.alloc (.cells (u8s id) 37)).alloc (.cells #[.bool false, .int .i64 0, .slice none 0 0] 68) := ⟨_, rfl⟩
  have b2 : Below w.heap.size w w2 := hw2 ▸ ((Below.refl _ _).alloc (Nat.le_refl _) _).alloc (by simp) _
  have HI : Hid (Blk w2 w.heap.size 37 (u8s id)) := Lib.hid (hw2 ▸ (Blk.new w _ _).alloc _)
  have HZ : Hid (Blk w2 (w.heap.size + 1) 68 #[.bool false, .int .i64 0, .slice none 0 0]) := Lib.hid (by rw [hw2]; have h := Blk.new (w.alloc (.cells (u8s id) 37)) 68 #[.bool false, .int .i64 0, .slice none 0 0]; rwa [World.size_alloc] at h)
  have HB2 := Lib.hid b2
  have q2 := (hm.below b2).look_ok Tryd.underlying63 (cl_zero_bytes w2) hid
  rw [hf, hb] at q2
  have CP := hP w2 b2
  have HID := Lib.hid hid
  have e2 := hw2.symm
  clear hm hid hf hb hP hw2 b2
  go_enter Tryd.func40, Tryd.ntmps40
  go_wp2_with (with_reducible (show wpList _ _ _ (Oper.mk _ (Op.load 37 _) _ _ _ _ :: _) _ _); refine pause ?_)
  unfold Paused
  refine wpList_row_w (by rfl) 37 (.tmp 3) (by rfl) w.heap.size (by rfl) 37 (u8s id) _ HI.out Tryd.underlying37 (by rfl) (by rw [u8s_size, HID.out.1]; exact cl_oid_load) ?_
  go_wp2_with (go_at_call 54; refine pause ?_)
  unfold Paused
  refine CP.mono ?_
  rintro e w5 ⟨rfl, hb5⟩
  have HB5 := Lib.hid (below_next HB2.out hb5)
  have HZ5 := Lib.hid (HZ.out.below hb5 HZ.out.lt)
  clear hb5 CP q2
  go_wp2_with (with_reducible (show wpList _ _ _ (Oper.mk _ (Op.store 50 _ _) _ _ _ _ :: _) _ _); refine pause ?_)
  unfold Paused
  change wpList _ _ _ _ _ (w5.alloc (.cells zOc 50))
  refine wpList_store_row (by rfl) 50 (.tmp 7) (.tmp 18) (by rfl) w5.heap.size zOc (by rfl) (by rfl) 50 zOc (Blk.new w5 _ _) (cl_obj36 (by kernel_rfl)) (by rfl) (by kernel_rfl) ?_
  have b6 : Below w5.heap.size w5 ((w5.alloc (.cells zOc 50)).setRow w5.heap.size zOc) := below_row ((Below.refl _ _).alloc (Nat.le_refl _) _) (Nat.le_refl _) _
  have HB6 := Lib.hid (below_next HB5.out b6)
  have HZ6 := Lib.hid (HZ5.out.below b6 HZ5.out.lt)
  clear b6
  generalize (w5.alloc (.cells zOc 50)).setRow w5.heap.size zOc = w6 at HB6 HZ6 ⊢
  simp only [Act.put]
  go_wp2_with (with_reducible (show wpList _ _ _ (Oper.mk _ (Op.build 68 _) _ _ _ _ :: _) _ _); refine pause ?_)
  unfold Paused
  refine wpList_buildK (by rfl) 68 _ (by rfl) [(0, .bool b)] (by kernel_rfl) _ (nd_built1 b) ?_
  go_wp2_with (with_reducible (show wpList _ _ _ (Oper.mk _ (Op.store 68 _ _) _ _ _ _ :: _) _ _); refine pause ?_)
  unfold Paused
  refine wpList_store_row (by rfl) 68 (.tmp 4) (.tmp 23) (by rfl) (w.heap.size + 1) (ndC b 0 (.slice none 0 0)) (by rfl) (by rfl) 68 #[.bool false, .int .i64 0, .slice none 0 0] HZ6.out (by exact nd_size) (by rfl) (nd_one b 0 none 0 0) ?_
  have HX := Lib.hid (HZ6.out.row (ndC b 0 (.slice none 0 0)))
  have HBx := Lib.hid (below_of_only HB6.out (only_setRow (World.grownBy.refl w6 _) (Or.inl rfl) (ndC b 0 (.slice none 0 0)) : w6.grownBy _ (some (w.heap.size + 1))) (by omega))
  generalize w6.setRow (w.heap.size + 1) (ndC b 0 (.slice none 0 0)) = w7 at HX HBx ⊢
  simp only [Act.put]
  go_wp2
  exact bodyPost_ret (v := .agg (ndC b 0 (.slice none 0 0))) (look_res (t := 4) rfl (by rfl) HX.out (by rfl)) rfl ⟨rfl, HBx.out⟩
set_option maxRecDepth 100000 in
set_option maxHeartbeats 4000000 in
/-- look, where it is one -/
theorem look_some (m nm : Nat) (f : List Nat → Option Value) (id : List Nat) (o : Ob) (t : List Nat) (A : Option Addr) (n c : Nat) (a : Nat → Addr) (w : World) (hm : MapO w m nm f) (hid : Id32 id) (hf : f id = some (.slice A n c)) (hv : Rd w (.slice A n c) t) (hb : Sha.Byte t) (hz : t.length ≤ 300) (hS : CSents w a) (hp : Ob.parse t = .ok o) :
    Calls Tryd.prog 40 #[.map (some m), .agg (u8s id)] w fun e w' => ∃ v, e = .returned (.agg (ndC true o.kind v)) ∧ w'.ownsRow w.heap.size 37 32 v o.links.length (cellsP o.links) ∧ Below w.heap.size w w' := by
  obtain ⟨w2, hw2⟩ : ∃ w2, w2 = (w.alloc (.cells (u8s id) 37)).alloc (.cells #[.bool false, .int .i64 0, .slice none 0 0] 68) := ⟨_, rfl⟩
  have b2 : Below w.heap.size w w2 := hw2 ▸ ((Below.refl _ _).alloc (Nat.le_refl _) _).alloc (by simp) _
  have HI : Hid (Blk w2 w.heap.size 37 (u8s id)) := Lib.hid (hw2 ▸ (Blk.new w _ _).alloc _)
  have HZ : Hid (Blk w2 (w.heap.size + 1) 68 #[.bool false, .int .i64 0, .slice none 0 0]) := Lib.hid (by rw [hw2]; have h := Blk.new (w.alloc (.cells (u8s id) 37)) 68 #[.bool false, .int .i64 0, .slice none 0 0]; rwa [World.size_alloc] at h)
  have HB2 := Lib.hid b2
  have q2 := (hm.below b2).look_ok Tryd.underlying63 (cl_zero_bytes w2) hid
  rw [hf] at q2
  simp only [Option.getD_some, Option.isSome_some] at q2
  have CP := oparse_ok o t a (.slice A n c) w2 (hv.below b2 (Nat.le_refl _)) (Oc.bytes_of hb) hz (hS.p.at_ b2) hp
  have HSM : Hid (o.ents.length ≤ 1000 ∧ o.pars.length ≤ 1000) := Lib.hid (parse_small (Oc.bytes_of hb) hp)
  have HID := Lib.hid hid
  have e2 := hw2.symm
  clear hm hid hf hv hb hz hS hp hw2 b2
  go_enter Tryd.func40, Tryd.ntmps40
  go_wp2_with (with_reducible (show wpList _ _ _ (Oper.mk _ (Op.load 37 _) _ _ _ _ :: _) _ _); refine pause ?_)
  unfold Paused
  refine wpList_row_w (by rfl) 37 (.tmp 3) (by rfl) w.heap.size (by rfl) 37 (u8s id) _ HI.out Tryd.underlying37 (by rfl) (by rw [u8s_size, HID.out.1]; exact cl_oid_load) ?_
  go_wp2_with (go_at_call 54; refine pause ?_)
  unfold Paused
  refine CP.mono ?_
  rintro e w5 ⟨cs, T, tc, E, ec, P, pc, rfl, hfit, _, hob, hb5⟩
  have HOB := Lib.hid (hob.obc)
  have HFIT := Lib.hid hfit
  have H36 := Lib.hid (HOB.out.size hfit)
  have H1 : Hid (cs.all (·.oneCell') = true) := Lib.hid hob.one
  have HB5 := Lib.hid (below_next HB2.out hb5)
  have HZ5 := Lib.hid (HZ.out.below hb5 HZ.out.lt)
  clear hb5 CP q2 hob hfit
  go_wp2_with (with_reducible (show wpList _ _ _ (Oper.mk _ (Op.store 50 _ _) _ _ _ _ :: _) _ _); refine pause ?_)
  unfold Paused
  change wpList _ _ _ _ _ (w5.alloc (.cells zOc 50))
  refine wpList_store_row (by rfl) 50 (.tmp 7) (.tmp 18) (by rfl) w5.heap.size cs (by rfl) (by rfl) 50 zOc (Blk.new w5 _ _) (cl_obj36 H36.out) (by rw [H36.out]; rfl) H1.out ?_
  have b6 : Below w5.heap.size w5 ((w5.alloc (.cells zOc 50)).setRow w5.heap.size cs) := below_row ((Below.refl _ _).alloc (Nat.le_refl _) _) (Nat.le_refl _) _
  have HB6 := Lib.hid (below_next HB5.out b6)
  have HZ6 := Lib.hid (HZ5.out.below b6 HZ5.out.lt)
  have HX6 : Hid (Blk ((w5.alloc (.cells zOc 50)).setRow w5.heap.size cs) w5.heap.size 50 cs) := Lib.hid ((Blk.new w5 _ _).row _)
  have HO6 := Lib.hid (HOB.out.below b6 (Nat.le_refl _))
  clear b6
  generalize (w5.alloc (.cells zOc 50)).setRow w5.heap.size cs = w6 at HB6 HZ6 HX6 HO6 ⊢
  generalize w5.heap.size = g7 at HX6 ⊢
  simp only [Act.put]
  go_wp2_with fail
  have HSX : Hid (Blk w6.drew g7 50 cs) := Lib.hid HX6.out.drew
  have CL := links_own o cs T E P tc ec pc w6.drew (HO6.out.below (below_drewN (Below.refl _ w6) 1) (Nat.le_refl _)) HFIT.out HSM.out
  refine wp_region_upto (S := fun w' => Blk w' g7 50 cs) (b := 6) (by kernel_rfl) ?_
  change Upto _ _ _ _ _ _ _ _ _ w6.drew
  refine Upto.takeY (i := 0) (v := ?_) rfl (by kernel_rfl) (by kernel_rfl) (by kernel_rfl) (by kernel_rfl) (fun _ _ _ h => h) (Or.inl ⟨by rfl, ?_⟩) (fun _ => HSX.out) ?_
  rotate_left
  · intro w' _; go_simp; with_reducible rfl
  try simp only [Act.put, List.getElem_toArray, List.getElem_cons_zero, List.setIfInBounds_toArray, List.set_cons_zero, List.set_cons_succ]
  refine Upto.takeY (i := 1) (v := ?_) rfl (by kernel_rfl) (by kernel_rfl) (by kernel_rfl) (by kernel_rfl) (fun _ _ _ h => h) (Or.inl ⟨by rfl, ?_⟩) (fun _ => HSX.out) ?_
  rotate_left
  · intro w' _; go_simp; with_reducible rfl
  try simp only [Act.put, List.getElem_toArray, List.getElem_cons_zero, List.getElem_cons_succ, List.setIfInBounds_toArray, List.set_cons_zero, List.set_cons_succ]
  refine Upto.take (i := 2) (v := ?_) rfl (by kernel_rfl) (by kernel_rfl) (by kernel_rfl) (by kernel_rfl) (fun _ _ _ h => h) (Or.inl ⟨by rfl, ?_⟩) HSX.out ?_
  rotate_left
  · intro w' hS; have h0 : w'.cell? ⟨g7, 0, none⟩ = some (.int .i64 o.kind) := (hS.cell 0).trans HO6.out.c0; go_simp; with_reducible rfl
  try simp only [Act.put, List.getElem_toArray, List.getElem_cons_zero, List.getElem_cons_succ, List.setIfInBounds_toArray, List.set_cons_zero, List.set_cons_succ]
  refine Upto.take (i := 3) (v := .agg (cs)) rfl (by kernel_rfl) (by kernel_rfl) (by kernel_rfl) (by kernel_rfl) (fun _ _ _ h => h) (takes_row 50 (.tmp 7) rfl (by rfl) g7 (by rfl) 50 (cs) _ (fun w' hS => hS) (by first | exact Tryd.underlying50 | kernel_rfl) (by rfl) (cl_obj36 H36.out)) HSX.out ?_
  try simp only [Act.put, List.getElem_toArray, List.getElem_cons_zero, List.getElem_cons_succ, List.setIfInBounds_toArray, List.set_cons_zero, List.set_cons_succ]
  refine Upto.one (i := 4) (by kernel_rfl) rfl (by rfl) (fun K hK => ?_)
  go_simp
  refine CL.mono ?_
  rintro e w7 ⟨v, rfl, hrk, hb7⟩
  have hx7 : Blk w7 g7 50 cs := HSX.out.below hb7 HSX.out.lt
  refine hK _ _ (fun _ _ => hx7) ?_
  try simp only [Act.put, List.getElem_toArray, List.getElem_cons_zero, List.getElem_cons_succ, List.setIfInBounds_toArray, List.set_cons_zero, List.set_cons_succ]
  obtain ⟨A8, n8, c8, rfl⟩ : ∃ A n c, v = .slice A n c := by obtain ⟨A, c, h, _⟩ := rdk_own hrk; exact ⟨A, _, c, h⟩
  have HB7 := Lib.hid (below_next (below_drewN HB6.out 1) hb7)
  have HZ7 := Lib.hid (HZ6.out.drew.below hb7 HZ6.out.drew.lt)
  have HRK := Lib.hid hrk
  clear hrk hb7 CL
  refine Upto.one (i := 5) (by kernel_rfl) rfl (by rfl) (fun K hK => ?_)
  refine wp_buildK 68 _ (by rfl) [(0, .bool true), (1, .int .i64 o.kind), (2, .slice A8 n8 c8)] (by go_simp) (ndC true o.kind (.slice A8 n8 c8)) (nd_built3 _ _ _ _ _) ?_
  refine hK _ _ (fun _ _ => hx7) ?_
  try simp only [Act.put, List.getElem_toArray, List.getElem_cons_zero, List.getElem_cons_succ, List.setIfInBounds_toArray, List.set_cons_zero, List.set_cons_succ]
  refine Upto.one (i := 6) (by kernel_rfl) rfl (by rfl) (fun K hK => ?_)
  refine wp_store_row 68 (.tmp 4) (.tmp 29) (by rfl) (w.heap.size + 1) (ndC true o.kind (.slice A8 n8 c8)) (by rfl) (by rfl) 68 #[.bool false, .int .i64 0, .slice none 0 0] HZ7.out (by exact nd_size) (by rfl) (nd_one _ _ _ _ _) ?_
  refine hK _ _ (fun h => absurd rfl h) ?_
  try simp only [Act.put, List.getElem_toArray, List.getElem_cons_zero, List.getElem_cons_succ]
  have HX := Lib.hid (HZ7.out.row (ndC true o.kind (.slice A8 n8 c8)))
  have hg8 : w7.grownBy (w7.setRow (w.heap.size + 1) (ndC true o.kind (.slice A8 n8 c8))) (some (w.heap.size + 1)) := only_setRow (World.grownBy.refl w7 _) (Or.inl rfl) (ndC true o.kind (.slice A8 n8 c8))
  have HBx := Lib.hid (below_of_only HB7.out hg8 (by omega))
  have HR8 : Hid ((w7.setRow (w.heap.size + 1) (ndC true o.kind (.slice A8 n8 c8))).ownsRow w.heap.size 37 32 (.slice A8 n8 c8) o.links.length (cellsP o.links)) := Lib.hid (own_lowL (HRK.out.kept hg8 (own_far HRK.out (by show w.heap.size + 1 < w6.heap.size; exact HZ6.out.lt))) (by show w.heap.size ≤ w6.heap.size; exact HB6.out.size))
  clear hg8 hx7
  generalize w7.setRow (w.heap.size + 1) (ndC true o.kind (.slice A8 n8 c8)) = w8 at HX HBx HR8 ⊢
  refine Upto.done (by kernel_rfl) ?_ _
  go_wp2
  exact bodyPost_ret (v := .agg (ndC true o.kind (.slice A8 n8 c8))) (look_res (t := 4) rfl (by rfl) HX.out (by rfl)) rfl ⟨_, rfl, HR8.out, HBx.out⟩
set_option maxRecDepth 100000 in
theorem look_any (m nm : Nat) (its : List Cl.T) (id : List Nat) (a : Nat → Addr) (w : World) (hm : MapO w m nm (fun id => (Cl.fst its id).map (·.val))) (hid : Id32 id) (hr : ∀ p ∈ its, Rd w p.val p.text ∧ Sha.Byte p.text) (hS : CSents w a) :
    Calls Tryd.prog 40 #[.map (some m), .agg (u8s id)] w (LookPost w (its.map (·.text)) id) := by
  have htx := Cl.fst_text its id
  cases hf : Cl.fst its id with
  | none =>
    rw [hf] at htx
    have e1 : Cl.the (its.map (·.text)) id = false := by unfold Cl.the; rw [← htx]; rfl
    have e2 : Cl.obAt (its.map (·.text)) id = none := by unfold Cl.obAt; rw [← htx]; rfl
    have e3 : Cl.knd (its.map (·.text)) id = 0 := by unfold Cl.knd; rw [e2]
    have e4 : Cl.lks (its.map (·.text)) id = [] := by unfold Cl.lks; rw [e2]
    refine (look_none m nm _ id none 0 0 false (a 1) w hm hid (by simp only [hf]; rfl) (by simp only [hf]; rfl) (fun w' hw => oparse_bad 2 [] a _ w' ⟨none, 0, rfl, Nat.le_refl _, fun h => absurd h (by simp)⟩ (by intro x hx; cases hx) (by simp) (hS.p.at_ hw) rfl)).mono ?_
    rintro e w' ⟨rfl, hb⟩
    exact ⟨.slice none 0 0, by rw [e1, e3], by rw [e4]; exact World.ownsRow_nil _ _ _ _, hb⟩
  | some t =>
    rw [hf] at htx
    obtain ⟨hmem, _⟩ := Cl.fst_mem hf
    obtain ⟨hrd, hby⟩ := hr t hmem
    obtain ⟨A, c, hv, _⟩ := hrd
    obtain ⟨hrd, _⟩ := hr t hmem
    rw [hv] at hrd
    have e1 : Cl.the (its.map (·.text)) id = true := by unfold Cl.the; rw [← htx]; rfl
    have e2 : Cl.obAt (its.map (·.text)) id = Cl.ob t.text := by unfold Cl.obAt; rw [← htx]; rfl
    by_cases hz : 300 < t.text.length
    · have e0 : Cl.ob t.text = none := by unfold Cl.ob; rw [if_pos hz]
      have e3 : Cl.knd (its.map (·.text)) id = 0 := by unfold Cl.knd; rw [e2, e0]
      have e4 : Cl.lks (its.map (·.text)) id = [] := by unfold Cl.lks; rw [e2, e0]
      refine (look_none m nm _ id A t.text.length c true (a 12) w hm hid (by simp only [hf]; exact hv) (by simp only [hf]; rfl) (fun w' hw => oparse_large (a 12) t.text _ w' (hrd.below hw (Nat.le_refl _)) hz (hS.at_ hw).g)).mono ?_
      rintro e w' ⟨rfl, hb⟩
      exact ⟨.slice none 0 0, by rw [e1, e3], by rw [e4]; exact World.ownsRow_nil _ _ _ _, hb⟩
    · cases hp : Ob.parse t.text with
      | bad k =>
        have e0 : Cl.ob t.text = none := by unfold Cl.ob; rw [if_neg hz, hp]
        have e3 : Cl.knd (its.map (·.text)) id = 0 := by unfold Cl.knd; rw [e2, e0]
        have e4 : Cl.lks (its.map (·.text)) id = [] := by unfold Cl.lks; rw [e2, e0]
        refine (look_none m nm _ id A t.text.length c true (a (k - 1)) w hm hid (by simp only [hf]; exact hv) (by simp only [hf]; rfl) (fun w' hw => oparse_bad k t.text a _ w' (hrd.below hw (Nat.le_refl _)) (Oc.bytes_of hby) (by omega) (hS.at_ hw).p hp)).mono ?_
        rintro e w' ⟨rfl, hb⟩
        exact ⟨.slice none 0 0, by rw [e1, e3], by rw [e4]; exact World.ownsRow_nil _ _ _ _, hb⟩
      | ok o =>
        have e0 : Cl.ob t.text = some o := by unfold Cl.ob; rw [if_neg hz, hp]
        have e3 : Cl.knd (its.map (·.text)) id = o.kind := by unfold Cl.knd; rw [e2, e0]
        have e4 : Cl.lks (its.map (·.text)) id = o.links := by unfold Cl.lks; rw [e2, e0]
        refine (look_some m nm _ id o t.text A t.text.length c a w hm hid (by simp only [hf]; rw [← hv]; rfl) hrd hby (by omega) hS hp).mono ?_
        rintro e w' ⟨v, rfl, ho, hb⟩
        exact ⟨v, by rw [e1, e3], by rw [e4]; exact ho, hb⟩
end Go.Proofs.YtlodalppnglclaaDoor
