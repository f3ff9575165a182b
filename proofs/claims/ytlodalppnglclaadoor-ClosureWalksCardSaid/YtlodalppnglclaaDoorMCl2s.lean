/- Objects by their ids: what closure's stock holds. -/
import Derived.Test.YtlodalppnglclaaDoorMCl1s
import Derived.Test.YtlodalppnglclaaDoorMOb18s
namespace Go.Proofs.YtlodalppnglclaaDoor
open Go Go.RowKit
namespace Cl
/-- a text, and where it lies -/
structure T where
  text : List Nat
  val : Value
/-- the first one with an id -/
noncomputable def fst (l : List T) (id : List Nat) : Option T := l.foldl (fun o t => if o.isSome then o else if id = Sha.sum t.text then some t else o) none
theorem fst_snoc (l : List T) (t : T) (id : List Nat) : fst (l ++ [t]) id = if (fst l id).isSome then fst l id else if id = Sha.sum t.text then some t else fst l id := by
  unfold fst; rw [List.foldl_append]; rfl
theorem fst_from (id : List Nat) : ∀ (l : List T) (o : Option T), (l.foldl (fun o t => if o.isSome then o else if id = Sha.sum t.text then some t else o) o).map (·.text) = (l.map (·.text)).foldl (fun o t => if o.isSome then o else if id = Sha.sum t then some t else o) (o.map (·.text))
  | [], _ => rfl
  | p :: l, o => by
    rw [List.foldl_cons, fst_from id l, List.map_cons, List.foldl_cons, Option.isSome_map]
    congr 1
    cases o with
    | none =>
      simp only [Option.isSome_none, Bool.false_eq_true, if_false]
      split <;> rfl
    | some t => rfl
theorem fst_text (l : List T) (id : List Nat) : (fst l id).map (·.text) = stk (l.map (·.text)) id := fst_from id l none
theorem fst_mem_from (id : List Nat) : ∀ (l : List T) (o : Option T) (t : T), l.foldl (fun o t => if o.isSome then o else if id = Sha.sum t.text then some t else o) o = some t → (t ∈ l ∧ id = Sha.sum t.text) ∨ o = some t
  | [], _, _, h => Or.inr h
  | s :: l, o, t, h => by
    rw [List.foldl_cons] at h
    rcases fst_mem_from id l _ t h with ⟨h1, h2⟩ | h1
    · exact Or.inl ⟨List.mem_cons_of_mem _ h1, h2⟩
    · split at h1
      · exact Or.inr h1
      · split at h1
        · rename_i he
          cases h1
          exact Or.inl ⟨List.mem_cons_self .., he⟩
        · exact Or.inr h1
theorem fst_mem {l : List T} {id : List Nat} {t : T} (h : fst l id = some t) : t ∈ l ∧ id = Sha.sum t.text := by
  rcases fst_mem_from id l none t h with h | h
  · exact h
  · cases h
end Cl
/-- values in a list -/
def RdV (w : World) (v : Value) (vs : List Value) : Prop :=
  ∃ A c, v = .slice A vs.length c ∧ vs.length ≤ c ∧ (0 < vs.length → ∃ b o, A = some ⟨b, o, none⟩ ∧ b < w.heap.size ∧ ∀ i u, vs[i]? = some u → w.cell? ⟨b, o + i, none⟩ = some u)
theorem RdV.below {w w' : World} {v : Value} {vs : List Value} (h : RdV w v vs) (hb : Below w.heap.size w w') : RdV w' v vs := by
  obtain ⟨A, c, hv, hc, hA⟩ := h
  refine ⟨A, c, hv, hc, fun h0 => ?_⟩
  obtain ⟨b, o, ha, hl, hx⟩ := hA h0
  exact ⟨b, o, ha, Nat.lt_of_lt_of_le hl hb.size, fun i u hu => (hb.cell (p := ⟨b, o + i, none⟩) hl).trans (hx i u hu)⟩
/-- texts in a list -/
structure ClT (w : World) (v : Value) (its : List Cl.T) : Prop where
  row : RdV w v (its.map (·.val))
  rd : ∀ p ∈ its, Rd w p.val p.text ∧ Sha.Byte p.text
theorem ClT.below {w w' : World} {v : Value} {its : List Cl.T} (h : ClT w v its) (hb : Below w.heap.size w w') : ClT w' v its :=
  ⟨h.row.below hb, fun p hp => ⟨(h.rd p hp).1.below hb (Nat.le_refl _), (h.rd p hp).2⟩⟩
theorem cl_oid_load : (Tryd.prog.info? 37).map (·.size) = some 32 := by kernel_rfl
theorem cl_sum_id (t : List Nat) : Id32 (Sha.sum t) := ⟨Sha.join_len _, Sha.join_byte _⟩
theorem cl_zero_bytes (w : World) : (zeroValue 40).run Tryd.prog w = .ok (.slice none 0 0) w := by kernel_rfl
theorem cl_make (k : Int) (w : World) : (Instr.makeMap 63 (some (.int .i64 k))).run Tryd.prog w = .ok (.map (some w.heap.size)) (w.alloc (.map #[] 0)) := by kernel_rfl
/-- while the stock is laid -/
structure SW (w wr : World) (its : List Cl.T) (k nm : Nat) : Prop where
  map : MapO wr w.heap.size nm (fun id => (Cl.fst (its.take k) id).map (·.val))
  few : nm ≤ k
  bel : Below w.heap.size w wr
theorem SW.below {w wr w' : World} {its : List Cl.T} {k nm : Nat} (h : SW w wr its k nm) (hb : Below wr.heap.size wr w') : SW w w' its k nm := ⟨h.map.below hb, h.few, below_next h.bel hb⟩
theorem SW.put {w wr w' : World} {its : List Cl.T} {k nm : Nat} (h : SW w wr its k nm) (hk : k < its.length) (hf : Cl.fst (its.take k) (Sha.sum its[k].text) = none) (hm : MapO w' w.heap.size (nm + 1) (updO (fun id => (Cl.fst (its.take k) id).map (·.val)) (Sha.sum its[k].text) its[k].val)) (hg : wr.grownBy w' (some w.heap.size)) : SW w w' its (k + 1) (nm + 1) := by
  refine ⟨hm.ext fun x _ => ?_, by have := h.few; omega, below_of_only h.bel hg (Nat.le_refl _)⟩
  unfold updO
  rw [List.take_succ_eq_append_getElem hk, Cl.fst_snoc]
  by_cases he : x = Sha.sum its[k].text
  · subst he
    rw [if_pos rfl, hf, if_neg (by simp), if_pos rfl]
    rfl
  · rw [if_neg he, if_neg he]
    split <;> rfl
theorem SW.skip {w wr : World} {its : List Cl.T} {k nm : Nat} (h : SW w wr its k nm) (hk : k < its.length) (hf : (Cl.fst (its.take k) (Sha.sum its[k].text)).isSome = true) : SW w wr its (k + 1) nm := by
  refine ⟨h.map.ext fun x _ => ?_, by have := h.few; omega, h.bel⟩
  rw [List.take_succ_eq_append_getElem hk, Cl.fst_snoc]
  by_cases he : x = Sha.sum its[k].text
  · subst he
    rw [if_pos hf]
  · rw [if_neg he]
    split <;> rfl
/-- how stockOf ends -/
def StkPost (w : World) (its : List Cl.T) (e : Ending) (w' : World) : Prop := ∃ m nm, e = .returned (.map (some m)) ∧ MapO w' m nm (fun id => (Cl.fst its id).map (·.val)) ∧ nm ≤ its.length ∧ w.heap.size ≤ m ∧ Below w.heap.size w w'
set_option maxRecDepth 100000 in
set_option maxHeartbeats 4000000 in
theorem stockOf_any (A : Option Addr) (n c : Nat) (its : List Cl.T) (w : World) (h : ClT w (.slice A n c) its) (hn : its.length ≤ 1000) (hl : ∀ p ∈ its, p.text.length ≤ 100000) (ht : Tabs w) :
    Calls Tryd.prog 25 #[.slice A n c] w (StkPost w its) := by
  have hnl : n = its.length := by
    obtain ⟨A', c', hv, _⟩ := h.row
    injection hv with e1 e2 e3
    rw [e2, List.length_map]
  have HROW : Hid (0 < n → ∃ b o, A = some ⟨b, o, none⟩ ∧ b < w.heap.size ∧ ∀ i u, (its.map (·.val))[i]? = some u → w.cell? ⟨b, o + i, none⟩ = some u) := Lib.hid (by
    obtain ⟨A', c', hv, _, hx⟩ := h.row
    injection hv with e1 e2 e3
    subst e1
    rw [← e2] at hx
    exact hx)
  have HRD := Lib.hid h.rd
  have HNL := Lib.hid hnl
  have HN : Hid (n ≤ 1000) := Lib.hid (by omega)
  have HL := Lib.hid hl
  have HT := Lib.hid ht
  have mk := cl_make n w
  have HS0 : Hid (SW w (w.alloc (.map #[] 0)) its 0 0) := Lib.hid ⟨(MapO.made w).ext fun x _ => rfl, Nat.le_refl _, (Below.refl _ _).alloc (Nat.le_refl _) _⟩
  have HF : Hid (∀ wr nm, SW w wr its n nm → StkPost w its (.returned (.map (some w.heap.size))) wr) := Lib.hid (fun wr nm hs => ⟨_, nm, rfl, by have h1 := hs.map; rw [hnl, List.take_length] at h1; exact h1, by have := hs.few; omega, Nat.le_refl _, hs.bel⟩)
  clear h hn hl ht hnl
  go_enter Tryd.func25, Tryd.ntmps25
  go_wp2
  generalize w.alloc (.map #[] 0) = w1 at HS0 ⊢
  clear mk
  go_loopw [14] (fun i wr => ∃ k : Nat, k ≤ n ∧ i = .int .i64 k ∧ ∃ nm, Hid (SW w wr its k nm)) (fun i _ => n - (intOf i).toNat)
  case atStart => exact ⟨0, Nat.zero_le _, rfl, 0, HS0⟩
  case round =>
    obtain ⟨k, hk, rfl, nm, HS⟩ := hrel
    by_cases hlt : k < n
    · have hki : k < its.length := by rw [← HNL.out]; exact hlt
      obtain ⟨b, o, rfl, hbl, hcell⟩ := HROW.out (by omega)
      obtain ⟨p, hp⟩ : ∃ p : Cl.T, its[k] = p := ⟨_, rfl⟩
      have hpm : p ∈ its := hp ▸ List.getElem_mem hki
      obtain ⟨hrd, hby⟩ := HRD.out p hpm
      obtain ⟨A1, c1, hval⟩ : ∃ A1 c1, p.val = .slice A1 p.text.length c1 := by obtain ⟨A1, c1, h, _⟩ := hrd; exact ⟨A1, c1, h⟩
      have pc : wr.cell? ⟨b, o + k, none⟩ = some (.slice A1 p.text.length c1) := by
        rw [← hval, ← hp]
        exact (HS.out.bel.cell (p := ⟨b, o + k, none⟩) hbl).trans (hcell k _ (by rw [List.getElem?_map, List.getElem?_eq_getElem hki]; rfl))
      have CID := oid_any p.text (.slice A1 p.text.length c1) wr (by rw [← hval]; exact hrd.below HS.out.bel (Nat.le_refl _)) hby (HT.out.below HS.out.bel (Nat.le_refl _)) (by have := HL.out p hpm; omega)
      have HP := Lib.hid hp
      have HVAL := Lib.hid hval
      have HKI := Lib.hid hki
      have i1 : ((k : Nat) : Int) < n := by omega
      have i2 : (0 : Int) ≤ ((k : Nat) : Int) := by omega
      have i3 : ((k : Nat) : Int) < 1000 := by have := HN.out; omega
      have HSI := Lib.hid (cl_sum_id p.text)
      obtain ⟨su, hsu⟩ : ∃ su, su = Sha.sum p.text := ⟨_, rfl⟩
      rw [← hsu] at CID HSI
      have HSU := Lib.hid hsu
      obtain ⟨n1, hn1⟩ : ∃ n, n = p.text.length := ⟨_, rfl⟩
      rw [← hn1] at pc CID HVAL
      clear hrd hby hval hpm hcell hsu hn1 hp
      go_wp2_with (go_at_call 18; refine pause ?_)
      unfold Paused
      refine CID.mono ?_
      rintro e w5 ⟨rfl, hb5⟩
      have HS5 := Lib.hid (HS.out.below hb5)
      clear hb5 CID pc
      go_wp2_with (with_reducible (show wpList _ _ _ (Oper.mk _ (Op.store 37 _ _) _ _ _ _ :: _) _ _); refine pause ?_)
      unfold Paused
      change wpList _ _ _ _ _ (w5.alloc (.cells (u8s (List.replicate 32 0)) 37))
      refine wpList_store_row (by rfl) 37 (.tmp 6) (.tmp 19) (by rfl) w5.heap.size (u8s su) (by rfl) (by rfl) 37 (u8s (List.replicate 32 0)) (Blk.new w5 _ _) (by rw [u8s_size, HSI.out.1]; exact cl_oid_load) (by rw [u8s_size, u8s_size, HSI.out.1]; rfl) (u8s_one _) ?_
      have b6 : Below w5.heap.size w5 ((w5.alloc (.cells (u8s (List.replicate 32 0)) 37)).setRow w5.heap.size (u8s su)) := below_row ((Below.refl _ _).alloc (Nat.le_refl _) _) (Nat.le_refl _) _
      have HS6 := Lib.hid (HS5.out.below b6)
      have HI6 : Hid (Blk ((w5.alloc (.cells (u8s (List.replicate 32 0)) 37)).setRow w5.heap.size (u8s su)) w5.heap.size 37 (u8s su)) := Lib.hid ((Blk.new w5 _ _).row _)
      clear b6 HS5
      generalize (w5.alloc (.cells (u8s (List.replicate 32 0)) 37)).setRow w5.heap.size (u8s su) = w6 at HS6 HI6 ⊢
      generalize w5.heap.size = g6 at HI6 ⊢
      simp only [Act.put]
      go_wp2_with (with_reducible (show wpList _ _ _ (Oper.mk _ (Op.load 37 _) _ _ _ _ :: _) _ _); refine pause ?_)
      unfold Paused
      refine wpList_row_w (by rfl) 37 (.tmp 6) (by rfl) g6 (by rfl) 37 (u8s su) _ HI6.out Tryd.underlying37 (by rfl) (by rw [u8s_size, HSI.out.1]; exact cl_oid_load) ?_
      have q6 := HS6.out.map.look_ok Tryd.underlying63 (cl_zero_bytes w6) HSI.out
      cases hf : Cl.fst (its.take k) su with
      | some t =>
        rw [hf] at q6
        simp only [Option.map_some, Option.getD_some, Option.isSome_some] at q6
        have HN6 : Hid (SW w w6 its (k + 1) nm) := Lib.hid (HS6.out.skip HKI.out (by rw [HP.out, ← HSU.out, hf]; rfl))
        clear hf
        go_wp2
        go_roundw
        case rel => exact ⟨k + 1, by omega, by go_num, nm, HN6⟩
        case measure => simp [intOf]; omega
      | none =>
        rw [hf] at q6
        simp only [Option.map_none, Option.getD_none, Option.isSome_none] at q6
        have HF6 := Lib.hid hf
        clear hf
        obtain ⟨w7, hrun, hm7, hg7⟩ := HS6.out.map.store Tryd.underlying63 (by have := HN.out; have := HS6.out.few; unfold maxLen; omega) HSI.out (.slice A1 n1 c1)
        have HN7 : Hid (SW w w7 its (k + 1) (nm + 1)) := Lib.hid (HS6.out.put HKI.out (by rw [HP.out, ← HSU.out]; exact HF6.out) (by rw [HP.out, ← HSU.out, HVAL.out]; exact hm7) hg7)
        clear hm7 hg7
        go_wp2_with (with_reducible (show wpList _ _ _ (Oper.mk _ (Op.load 37 _) _ _ _ _ :: _) _ _); refine pause ?_)
        unfold Paused
        refine wpList_row_w (by rfl) 37 (.tmp 6) (by rfl) g6 (by rfl) 37 (u8s su) _ HI6.out Tryd.underlying37 (by rfl) (by rw [u8s_size, HSI.out.1]; exact cl_oid_load) ?_
        go_wp2
        go_roundw
        case rel => exact ⟨k + 1, by omega, by go_num, nm + 1, HN7⟩
        case measure => simp [intOf]; omega
    · obtain rfl : k = n := by omega
      have HE := Lib.hid (HF.out wr nm HS.out)
      have ik : ¬ ((k : Nat) : Int) < k := by omega
      go_wp2
      go_ret
      exact HE.out
end Go.Proofs.YtlodalppnglclaaDoor
/- Links in general: the answer is a row of its own. -/
namespace Go.Proofs.YtlodalppnglclaaDoor
open Go Go.RowKit
theorem own_lowL {w : World} {m m' z n : Nat} {e : TypeId} {v : Value} {us : List Value} (h : w.ownsRow m e z v n us) (hm : m' ≤ m) : w.ownsRow m' e z v n us := by
  refine ⟨h.1, ?_⟩
  rcases h.2 with hn | ⟨g, cap, cur, rfl, hb, rest⟩
  · exact .inl hn
  · exact .inr ⟨g, cap, cur, rfl, by omega, rest⟩
set_option maxRecDepth 100000 in
set_option maxHeartbeats 4000000 in
theorem links_own (o : Ob) (cs : Array Value) (T E P : Option Addr) (tc ec pc : Nat) (w : World) (h : ObC w o cs T tc E ec P pc) (hf : o.Fit) (hz : o.ents.length ≤ 1000 ∧ o.pars.length ≤ 1000) :
    Calls Tryd.prog 55 #[.agg cs] w fun e w' => ∃ v, e = .returned v ∧ w'.ownsRow w.heap.size 37 32 v o.links.length (cellsP o.links) ∧ Below w.heap.size w w' := by
  obtain ⟨w2, hw2⟩ : ∃ w2, w2 = w.alloc (.cells cs 50) := ⟨_, rfl⟩
  have X1 : Box w w2 w.heap.size 50 cs := hw2 ▸ Box.new w _ cs
  have HC := Lib.hid (h.below X1.bel (Nat.le_refl _))
  have HF := Lib.hid hf
  have HZ := Lib.hid hz
  have HX := Lib.hid X1
  have K0 := Lib.hid h.c0
  have K2 := Lib.hid h.c2
  have K3 := Lib.hid (h.c35 hf)
  have HTG := Lib.hid hf.target
  obtain ⟨ip, hip, hpz, hps, hpb⟩ := info_parts ioid_info
  have HIP := Lib.hid (And.intro hip (And.intro hpz (And.intro hps hpb)))
  have a2 : w2.cell? ⟨w.heap.size, 2, none⟩ = some (.slice E o.ents.length ec) := (X1.at_.cell 2).trans K2.out
  have HL0 : Hid (LkW w2 w2 nilV ((o.ents.take 0).map (·.id))) := Lib.hid ⟨World.ownsRow_nil _ _ _ _, Below.refl _ _⟩
  have HLE := Lib.hid (show o.ents.length ≤ 1000 ∧ o.pars.length ≤ 1000 from hz)
  have e2 := hw2.symm
  clear h hf hz X1 hw2 hip hpz hps hpb
  go_enter Tryd.func55, Tryd.ntmps55
  go_wp2
  clear a2
  go_loopw [3, 9] (fun v i wr => ∃ k : Nat, k ≤ o.ents.length ∧ i = .int .i64 k ∧ Hid (LkW w2 wr v ((o.ents.take k).map (·.id)))) (fun _ i _ => o.ents.length - (intOf i).toNat)
  case atStart => exact ⟨0, Nat.zero_le _, rfl, HL0⟩
  case round =>
    obtain ⟨k, hk, rfl, HL⟩ := hrel
    by_cases hlt : k < o.ents.length
    · obtain ⟨sb, so, rfl, _, hsr⟩ := (HC.out.ents.below HL.out.bel (Nat.le_refl _)).ent rfl HF.out.ents hlt
      have HSR := Lib.hid hsr
      have HID := Lib.hid (HF.out.ents _ (List.getElem_mem hlt))
      have HTK := Lib.hid (ids_take hlt)
      have HKL : Hid (((o.ents.take k).map (·.id)).length = k) := Lib.hid (by rw [List.length_map, List.length_take]; omega)
      clear hsr
      obtain ⟨en, hen⟩ : ∃ en, en = o.ents[k] := ⟨_, rfl⟩
      rw [← hen] at HSR HID HTK
      clear hen
      have i1 : ((k : Nat) : Int) < o.ents.length := by omega
      have i2 : (0 : Int) ≤ ((k : Nat) : Int) := by omega
      have i3 : ((k : Nat) : Int) < 1000 := by have := HLE.out; omega
      go_wp2_with (with_reducible (show wpList _ _ _ (Oper.mk _ (Op.load 78 _) _ _ _ _ :: _) _ _); refine pause ?_)
      unfold Paused
      refine wpList_mid_w (by rfl) 78 (.tmp 11) (by rfl) sb (so + k * 33) (by rfl) _ _ HSR.out Tryd.underlying78 (by rfl) (by rw [cellsE1_len HID.out]; kernel_rfl) ?_
      go_wp2_with (with_reducible (show wpList _ _ _ (Oper.mk _ (Op.store 78 _ _) _ _ _ _ :: _) _ _); refine pause ?_)
      unfold Paused
      change wpList _ _ _ _ _ (wr.alloc (.cells (cellsE1 ⟨⟨#[]⟩, List.replicate 32 0⟩).toArray 78))
      refine wpList_store_row (by rfl) 78 (.tmp 5) (.tmp 12) (by rfl) wr.heap.size (cellsE1 en).toArray (by rfl) (by rfl) 78 (cellsE1 ⟨⟨#[]⟩, List.replicate 32 0⟩).toArray (Blk.new wr _ _) (by rw [List.size_toArray, cellsE1_len HID.out]; kernel_rfl) (by rw [List.size_toArray, List.size_toArray, cellsE1_len HID.out]; rfl) (arr_one (cellsE1_one en)) ?_
      have HLa : Hid (LkW w2 ((wr.alloc (.cells (cellsE1 ⟨⟨#[]⟩, List.replicate 32 0⟩).toArray 78)).setRow wr.heap.size (cellsE1 en).toArray) u3 ((o.ents.take k).map (·.id))) := Lib.hid ⟨own_farRow (g := wr.heap.size) (HL.out.own.alloc _) (fun k hk => by have := (HL.out.own.lt k hk).2; omega) _, below_next HL.out.bel (below_row ((Below.refl _ _).alloc (Nat.le_refl _) _) (Nat.le_refl _) _)⟩
      have HXa := Lib.hid ((Blk.new wr 78 (cellsE1 ⟨⟨#[]⟩, List.replicate 32 0⟩).toArray).row (cellsE1 en).toArray)
      generalize World.setRow _ wr.heap.size (cellsE1 en).toArray = wa at HLa HXa ⊢
      generalize wr.heap.size = gx at HXa ⊢
      simp only [Act.put]
      go_wp2_with (with_reducible (show wpList _ _ _ (Oper.mk _ (Op.load 37 _) _ _ _ _ :: _) _ _); refine pause ?_)
      unfold Paused
      refine wpList_mid_w (by rfl) 37 (.tmp 14) (by rfl) gx 1 (by rfl) _ _ (ent_idx en HXa.out) Tryd.underlying37 (by rfl) (by rw [cellsP1_len HID.out]; kernel_rfl) ?_
      go_wp2_with (with_reducible (show wpList _ _ _ (Oper.mk _ (Op.buildSlice _ _ _) _ _ _ _ :: _) _ _); refine pause ?_)
      unfold Paused
      refine wpList_buildSliceK (by rfl) 23 37 1 _ (by rfl) (cellsB (en.id)).toArray ip (.agg (cellsB (List.replicate 32 0)).toArray) Tryd.underlying23 HIP.out.1 HIP.out.2.1 (by rw [HIP.out.2.2.1]; decide) (by rw [HIP.out.2.2.1]; decide) _ (by kernel_rfl) (by rw [HIP.out.2.2.1]; exact fill_one 32 (Value.agg (cellsB (List.replicate 32 0)).toArray).cells _ (cellsP1_len HID.out) (by rfl)) ?_
      have HOx7 := Lib.hid (HLa.out.own.alloc (.cells (cellsB (en.id)).toArray 37))
      have HXx7 := Lib.hid (Blk.new wa 37 (cellsB (en.id)).toArray)
      have HBx7 := Lib.hid (below_next HLa.out.bel (show Below wa.heap.size wa (wa.alloc (.cells (cellsB (en.id)).toArray 37)) from (Below.refl _ _).alloc (Nat.le_refl _) _))
      generalize wa.alloc (.cells (cellsB (en.id)).toArray 37) = wb at HOx7 HXx7 HBx7 ⊢
      generalize wa.heap.size = gs at HXx7 ⊢
      go_wp2_with (with_reducible (show wpList _ _ _ (Oper.mk _ (Op.call (Call.mk (Callee.builtin Builtin.append) _ _)) _ _ _ _ :: _) _ _); refine pause ?_)
      unfold Paused
      have HOk : Hid (wb.ownsRow w2.heap.size 37 32 u3 k (cellsP ((o.ents.take k).map (·.id)))) := Lib.hid (by have h := HOx7.out; rwa [HKL.out] at h)
      have HN1 : Hid (k + 1 ≤ maxLen ∧ (k + 1) * 32 ≤ 140737488355328) := Lib.hid (by have := HLE.out; unfold maxLen; constructor <;> omega)
      have hcl : ∀ (j : Nat) u, (cellsB en.id)[j]? = some u → wb.cell? ((⟨gs, 0, none⟩ : Addr).add j) = some u := fun j u hj => by rw [Addr.add_mid, Nat.zero_add, HXx7.out.cell j]; simpa using hj
      have HCL := Lib.hid hcl
      clear hcl
      refine wpList_append_own _ (by rfl) (.tmp 13) (.tmp 16) 23 (by rfl) w2.heap.size 37 ip _ 32 32 Tryd.underlying23 HIP.out.1 HIP.out.2.1 HIP.out.2.2.1 HIP.out.2.2.2 (by rfl) (by decide) u3 k _ (by rfl) HOk.out ⟨gs, 0, none⟩ 1 1 (cellsB (en.id)) (by rfl) (by rw [cellsP1_len HID.out]) HCL.out (cellsB_one _) HN1.out.1 HN1.out.2 HBx7.out.size ?_
      intro v7 w7 ho7 hg7 _
      have HLn : Hid (LkW w2 w7 v7 ((o.ents.take (k + 1)).map (·.id))) := Lib.hid ⟨by rw [HTK.out, List.length_append, cellsP_snoc, HKL.out]; exact ho7, below_own HBx7.out HOk.out (Nat.le_refl _) hg7⟩
      clear ho7 hg7
      go_wp2
      go_roundw
      case rel => exact ⟨k + 1, by omega, by go_num, HLn⟩
      case measure => simp [intOf]; omega
    · obtain rfl : k = o.ents.length := by omega
      have HLz : Hid (LkW w2 wr u3 (o.ents.map (·.id))) := Lib.hid (by have h := HL.out; rwa [List.take_of_length_le (Nat.le_refl _)] at h)
      have a0 : wr.cell? ⟨w.heap.size, 0, none⟩ = some (.int .i64 o.kind) := ((HX.out.at_.below HLz.out.bel HX.out.at_.lt).cell 0).trans K0.out
      have CA := aims_any o.kind wr
      have ik : ¬ ((o.ents.length : Nat) : Int) < o.ents.length := by omega
      by_cases ha : aimsB o.kind = true
      · have HFL : Hid (o.links = (o.ents.map (·.id) ++ [o.target]) ++ o.pars) := Lib.hid (by unfold Ob.links; rw [if_pos ha])
        rw [ha] at CA
        clear ha HL
        go_wp2_with (first
          | (go_at_call 49; refine CA.mono ?_; rintro e wn ⟨rfl, rfl⟩)
          | (with_reducible (show wpList _ _ _ (Oper.mk _ (Op.load 37 _) _ _ _ _ :: _) _ _); refine pause ?_))
        unfold Paused
        refine wpList_mid_w (by rfl) 37 (.tmp 23) (by rfl) w.heap.size 3 (by rfl) _ _ (tgt_idx (HX.out.at_.below HLz.out.bel HX.out.at_.lt) (ob_mid HC.out)) Tryd.underlying37 (by rfl) (by rw [cellsP1_len HTG.out]; kernel_rfl) ?_
        go_wp2_with (with_reducible (show wpList _ _ _ (Oper.mk _ (Op.buildSlice _ _ _) _ _ _ _ :: _) _ _); refine pause ?_)
        unfold Paused
        refine wpList_buildSliceK (by rfl) 23 37 1 _ (by rfl) (cellsB (o.target)).toArray ip (.agg (cellsB (List.replicate 32 0)).toArray) Tryd.underlying23 HIP.out.1 HIP.out.2.1 (by rw [HIP.out.2.2.1]; decide) (by rw [HIP.out.2.2.1]; decide) _ (by kernel_rfl) (by rw [HIP.out.2.2.1]; exact fill_one 32 (Value.agg (cellsB (List.replicate 32 0)).toArray).cells _ (cellsP1_len HTG.out) (by rfl)) ?_
        have HOx := Lib.hid (HLz.out.own.alloc (.cells (cellsB (o.target)).toArray 37))
        have HXx := Lib.hid (Blk.new wr 37 (cellsB (o.target)).toArray)
        have HBx := Lib.hid (below_next HLz.out.bel (show Below wr.heap.size wr (wr.alloc (.cells (cellsB (o.target)).toArray 37)) from (Below.refl _ _).alloc (Nat.le_refl _) _))
        generalize wr.alloc (.cells (cellsB (o.target)).toArray 37) = wb at HOx HXx HBx ⊢
        generalize wr.heap.size = gs at HXx ⊢
        go_wp2_with (with_reducible (show wpList _ _ _ (Oper.mk _ (Op.call (Call.mk (Callee.builtin Builtin.append) _ _)) _ _ _ _ :: _) _ _); refine pause ?_)
        unfold Paused
        have HKL : Hid ((o.ents.map (·.id)).length = o.ents.length) := Lib.hid (List.length_map ..)
        have HOk : Hid (wb.ownsRow w2.heap.size 37 32 u3 o.ents.length (cellsP (o.ents.map (·.id)))) := Lib.hid (by have h := HOx.out; rwa [HKL.out] at h)
        have HN1 : Hid (o.ents.length + 1 ≤ maxLen ∧ (o.ents.length + 1) * 32 ≤ 140737488355328) := Lib.hid (by have := HLE.out; unfold maxLen; constructor <;> omega)
        have hcl : ∀ (j : Nat) u, (cellsB o.target)[j]? = some u → wb.cell? ((⟨gs, 0, none⟩ : Addr).add j) = some u := fun j u hj => by rw [Addr.add_mid, Nat.zero_add, HXx.out.cell j]; simpa using hj
        have HCL := Lib.hid hcl
        clear hcl
        refine wpList_append_own _ (by rfl) (.tmp 22) (.tmp 25) 23 (by rfl) w2.heap.size 37 ip _ 32 32 Tryd.underlying23 HIP.out.1 HIP.out.2.1 HIP.out.2.2.1 HIP.out.2.2.2 (by rfl) (by decide) u3 o.ents.length _ (by rfl) HOk.out ⟨gs, 0, none⟩ 1 1 (cellsB (o.target)) (by rfl) (by rw [cellsP1_len HTG.out]) HCL.out (cellsB_one _) HN1.out.1 HN1.out.2 HBx.out.size ?_
        intro v7 w7 ho7 hg7 _
        have HL7 : Hid (LkW w2 w7 v7 (o.ents.map (·.id) ++ [o.target])) := Lib.hid ⟨by rw [List.length_append, cellsP_snoc, HKL.out]; exact ho7, below_own HBx.out HOk.out (Nat.le_refl _) hg7⟩
        clear ho7 hg7 a0 CA
        have HP9 : Hid (RdK w7 (.slice P o.pars.length pc) o.pars.length (cellsP o.pars)) := Lib.hid (HC.out.pars.below HL7.out.bel (Nat.le_refl _))
        obtain ⟨v9, w9, hr9, hl9⟩ := app_pars HL7.out HP9.out HF.out.pars (by have h1 := HLE.out; simp only [List.length_append, List.length_map, List.length_cons, List.length_nil]; omega) HLE.out.2 23
        have HR9 := Lib.hid hr9
        have HL9 := Lib.hid hl9
        have a5 : w7.cell? ⟨w.heap.size, 35, none⟩ = some (.slice P o.pars.length pc) := ((HX.out.at_.below HL7.out.bel HX.out.at_.lt).cell 35).trans K3.out
        clear hr9 hl9
        go_wp2_with (at_builtin; go_loud (refine Lib.wpList_append_run_sl _ rfl (.tmp 27) (.tmp 29) _ rfl _ _ rfl rfl HR9.out ?_))
        go_ret
        exact ⟨_, rfl, by rw [HFL.out]; exact own_lowL HL9.out.own HX.out.bel.size, (HX.out.bel).trans (HL9.out.bel.mono HX.out.bel.size)⟩
      · have ha' : aimsB o.kind = false := by simpa using ha
        have HFL : Hid (o.links = o.ents.map (·.id) ++ o.pars) := Lib.hid (by unfold Ob.links; rw [if_neg ha, List.append_nil])
        rw [ha'] at CA
        clear ha ha' HL
        have HP9 : Hid (RdK wr (.slice P o.pars.length pc) o.pars.length (cellsP o.pars)) := Lib.hid (HC.out.pars.below HLz.out.bel (Nat.le_refl _))
        obtain ⟨v9, w9, hr9, hl9⟩ := app_pars HLz.out HP9.out HF.out.pars (by have h1 := HLE.out; simp only [List.length_map]; omega) HLE.out.2 23
        have HR9 := Lib.hid hr9
        have HL9 := Lib.hid hl9
        have a5 : wr.cell? ⟨w.heap.size, 35, none⟩ = some (.slice P o.pars.length pc) := ((HX.out.at_.below HLz.out.bel HX.out.at_.lt).cell 35).trans K3.out
        clear hr9 hl9
        go_wp2_with (first
          | (go_at_call 49; refine CA.mono ?_; rintro e wn ⟨rfl, rfl⟩)
          | (at_builtin; go_loud (refine Lib.wpList_append_run_sl _ rfl (.tmp 27) (.tmp 29) _ rfl _ _ rfl rfl HR9.out ?_)))
        go_ret
        exact ⟨_, rfl, by rw [HFL.out]; exact own_lowL HL9.out.own HX.out.bel.size, (HX.out.bel).trans (HL9.out.bel.mono HX.out.bel.size)⟩
end Go.Proofs.YtlodalppnglclaaDoor
