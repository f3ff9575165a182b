/- The document's search: the last of some texts with an id. -/
import Derived.Test.YtolfphfdeccleaaGreatDoorMPk14s
import Derived.Test.YtolfphfdeccleaaGreatDoorMDl22s
import Derived.Test.YtolfphfdeccleaaGreatDoorMSum12s
import Derived.Test.YtolfphfdeccleaaGreatDoorMOct14s
import Derived.Lib.ConvBytes
namespace Go.Proofs.YtolfphfdeccleaaGreatDoor
open Go Go.RowKit
namespace Pk
/-- the place of the last of the first k texts with an id -/
noncomputable def idx (l : List It) (id : List Nat) : Nat → Option Nat
  | 0 => none
  | k + 1 => if id = Sha.sum ((l.map (·.text)).getD k []) then some k else idx l id k
theorem idx_fnd (l : List It) (id : List Nat) : ∀ k, k ≤ l.length → fnd (l.take k) id = (idx l id k).bind (fun i => l[i]?) ∧ ∀ i, idx l id k = some i → i < k
  | 0, _ => ⟨rfl, fun i h => by cases h⟩
  | k + 1, hk => by
    obtain ⟨h1, h2⟩ := idx_fnd l id k (by omega)
    have hg : (l.map (·.text)).getD k [] = l[k].text := by
      rw [List.getD_eq_getElem?_getD, List.getElem?_map, List.getElem?_eq_getElem (by omega : k < l.length)]; rfl
    rw [List.take_succ_eq_append_getElem (by omega), fnd_snoc, idx, hg]
    by_cases he : id = Sha.sum l[k].text
    · rw [if_pos he, if_pos he]
      exact ⟨by simp [List.getElem?_eq_getElem (by omega : k < l.length)], fun i h => by injection h with h; omega⟩
    · rw [if_neg he, if_neg he]
      exact ⟨h1, fun i h => by have := h2 i h; omega⟩
theorem idx_all (l : List It) (id : List Nat) : fnd l id = (idx l id l.length).bind (fun i => l[i]?) ∧ ∀ i, idx l id l.length = some i → i < l.length := by
  have h := idx_fnd l id l.length (Nat.le_refl _)
  rwa [List.take_length] at h
/-- what the search answers -/
noncomputable def at_ (o : Option Nat) : Int := match o with | none => -1 | some i => (i : Int)
end Pk
theorem rd_blk {w : World} {g t : Nat} {xs : List Nat} (h : Blk w g t (u8s xs)) (_h0 : 0 < xs.length) : Rd w (.slice (some ⟨g, 0, none⟩) xs.length xs.length) xs :=
  ⟨_, _, rfl, Nat.le_refl _, fun _ => ⟨g, 0, rfl, h.lt, fun i hi => by rw [Nat.zero_add, h.cell]; exact u8s_get xs i hi⟩⟩
theorem rid_size : (Tryz.prog.info? 48).map (·.size) = some 32 := by kernel_rfl
theorem rsum_id (t : List Nat) : Id32 (Sha.sum t) := ⟨Sha.join_len _, Sha.join_byte _⟩
theorem rid_any (v : Value) (bs : List Nat) (w : World) (hv : Rd w v bs) (hb : Sha.Byte bs) (hz : bs.length ≤ 1099511627776) :
    Calls Tryz.prog 26 #[v] w fun e w' => e = .returned (.agg (u8s (Sha.sum bs))) ∧ Below w.heap.size w w' := by
  obtain ⟨w1, hw1⟩ : ∃ w1, w1 = w.alloc (.cells (u8s (List.replicate 32 0)) 48) := ⟨_, rfl⟩
  have b1 : Below w.heap.size w w1 := hw1 ▸ (Below.refl _ _).alloc (Nat.le_refl _) _
  have HX : Hid (Blk w1 w.heap.size 48 (u8s (List.replicate 32 0))) := Lib.hid (hw1 ▸ Blk.new w _ _)
  have C := refsum_any v bs w1 (hv.below b1 (Nat.le_refl _)) hb hz
  have HB := Lib.hid b1
  have HS := Lib.hid (rsum_id bs)
  have e1 := hw1.symm
  clear hv hw1 b1
  go_enter Tryz.func26, Tryz.ntmps26
  go_wp2_with (go_at_call 44; refine pause ?_)
  unfold Paused
  try change Calls _ _ _ (w.alloc (.cells (u8s (List.replicate 32 0)) 48)) _
  try rw [e1]
  refine C.mono ?_
  rintro e w3 ⟨rfl, hb3⟩
  have HX3 := Lib.hid (HX.out.below hb3 HX.out.lt)
  have HB3 := Lib.hid (below_next HB.out hb3)
  clear hb3 C
  generalize hsu : Sha.sum bs = su at HS ⊢
  have HSU := Lib.hid hsu
  clear hsu
  go_wp2_with (with_reducible (show wpList _ _ _ (Oper.mk _ (Op.store 48 _ _) _ _ _ _ :: _) _ _); refine pause ?_)
  unfold Paused
  refine wpList_store_row (by rfl) 48 (.tmp 2) (.tmp 4) (by rfl) w.heap.size (u8s su) (by rfl) (by rfl) 48 _ HX3.out (by rw [u8s_size, HS.out.1]; exact rid_size) (by rw [u8s_size, u8s_size, HS.out.1]; rfl) (u8s_one _) ?_
  have HX4 := Lib.hid (HX3.out.row (u8s su))
  have HB4 := Lib.hid (below_of_only HB3.out (only_setRow (World.grownBy.refl w3 _) (Or.inl rfl) (u8s su) : w3.grownBy _ (some w.heap.size)) (Nat.le_refl _))
  generalize w3.setRow w.heap.size (u8s su) = w4 at HX4 HB4 ⊢
  simp only [Act.put]
  go_wp2
  exact bodyPost_ret (v := .agg (u8s su)) (results_cell_row rfl _ _ w.heap.size 48 _ (0, 0) _ rfl HX4.out Tryz.underlying48 rfl (by rw [u8s_size, HS.out.1]; exact rid_size)) rfl ⟨by rw [HSU.out], HB4.out⟩
/-- how the search ends -/
def RFindPost (its : List Pk.It) (id : List Nat) (w : World) (e : Ending) (w' : World) : Prop := e = .returned (.int .i64 (Pk.at_ (Pk.idx its id its.length))) ∧ Below w.heap.size w w'
set_option maxRecDepth 100000 in
set_option maxHeartbeats 2000000 in
theorem pfind_any (A : Option Addr) (n c : Nat) (its : List Pk.It) (id : List Nat) (T : ByteArray) (w : World) (hT : T = textOf id) (hid : Sha.Byte id) (h : Txts w (.slice A n c) its) (hn : its.length ≤ 1000) (hl : ∀ p ∈ its, p.text.length ≤ 100000) :
    Calls Tryz.prog 23 #[.slice A n c, .string T] w (RFindPost its id w) := by
  have hnl : n = its.length := by
    obtain ⟨A', c', hv, _⟩ := h.row
    injection hv with e1 e2 e3
    rw [e2, List.length_map]
  have HNL := Lib.hid hnl
  have HRD := Lib.hid h
  have HR : Hid (0 < n → ∃ b o, A = some ⟨b, o, none⟩ ∧ b < w.heap.size ∧ ∀ i u, (its.map (·.val))[i]? = some u → w.cell? ⟨b, o + i, none⟩ = some u) := Lib.hid (by
    obtain ⟨A', c', hv, _, hx⟩ := h.row
    injection hv with e1 e2 e3
    subst e1
    rw [← e2] at hx
    exact hx)
  have HL := Lib.hid hl
  have HN1 : Hid (n ≤ 1000) := Lib.hid (by omega)
  have HTI := Lib.hid hT
  have HID := Lib.hid hid
  have HPF : Hid (∀ e w', e = .returned (.int .i64 (Pk.at_ (Pk.idx its id n))) ∧ Below w.heap.size w w' → RFindPost its id w e w') := Lib.hid (fun e w' hq => by unfold RFindPost; rw [← hnl]; exact hq)
  clear h hn hl hT hid hnl
  go_enter Tryz.func23, Tryz.ntmps23
  go_wp2
  go_loopw [5, 11] (fun o j wr => ∃ k : Nat, k ≤ n ∧ j = .int .i64 k ∧ o = .int .i64 (Pk.at_ (Pk.idx its id k)) ∧ Hid (Below w.heap.size w wr)) (fun _ j _ => n - (intOf j).toNat)
  case atStart => exact ⟨0, Nat.zero_le _, rfl, rfl, Lib.hid (Below.refl _ _)⟩
  case round =>
    obtain ⟨k, hk, rfl, rfl, HB⟩ := hrel
    by_cases hlt : k < n
    · have hki : k < its.length := by rw [← HNL.out]; exact hlt
      obtain ⟨b, o, rfl, hbl, hcell⟩ := HR.out (by omega)
      obtain ⟨p, hp⟩ : ∃ p, its[k]? = some p := ⟨its[k], List.getElem?_eq_getElem hki⟩
      have hpm := List.mem_of_getElem? hp
      obtain ⟨hrd, hby⟩ := HRD.out.rd p hpm
      obtain ⟨A1, c1, hval⟩ : ∃ A1 c1, p.val = .slice A1 p.text.length c1 := by obtain ⟨A1, c1, h, _⟩ := hrd; exact ⟨A1, c1, h⟩
      have pc : wr.cell? ⟨b, o + k, none⟩ = some (.slice A1 p.text.length c1) := by
        rw [← hval]
        exact (HB.out.cell (p := ⟨b, o + k, none⟩) hbl).trans (hcell k _ (by rw [List.getElem?_map, hp]; rfl))
      have CID := rid_any (.slice A1 p.text.length c1) p.text wr (by rw [← hval]; exact hrd.below HB.out (Nat.le_refl _)) hby (by have := HL.out p hpm; omega)
      have HSI := Lib.hid (rsum_id p.text)
      have HIX : Hid (Pk.idx its id (k + 1) = if id = Sha.sum p.text then some k else Pk.idx its id k) := Lib.hid (by
        rw [Pk.idx, List.getD_eq_getElem?_getD, List.getElem?_map, hp]; rfl)
      obtain ⟨su, hsu⟩ : ∃ su, su = Sha.sum p.text := ⟨_, rfl⟩
      rw [← hsu] at CID HSI HIX
      obtain ⟨n1, hn1⟩ : ∃ n, n = p.text.length := ⟨_, rfl⟩
      rw [← hn1] at pc CID
      have i1 : ((k : Nat) : Int) < n := by omega
      have i2 : (0 : Int) ≤ ((k : Nat) : Int) := by omega
      have i3 : ((k : Nat) : Int) < 1000 := by have := HN1.out; omega
      generalize hat : Pk.at_ (Pk.idx its id k) = av
      have HAT := Lib.hid hat
      have HLT := Lib.hid hlt
      clear hrd hby hval hpm hcell hsu hn1 hp hki hk hat hlt
      go_wp2_with (go_at_call 26; refine pause ?_)
      unfold Paused
      refine CID.mono ?_
      rintro e w5 ⟨rfl, hb5⟩
      have HB5 := Lib.hid (below_then HB.out hb5)
      clear hb5 CID pc
      go_wp2_with (with_reducible (show wpList _ _ _ (Oper.mk _ (Op.store 48 _ _) _ _ _ _ :: _) _ _); refine pause ?_)
      unfold Paused
      change wpList _ _ _ _ _ (w5.alloc (.cells (u8s (List.replicate 32 0)) 48))
      refine wpList_store_row (by rfl) 48 (.tmp 8) (.tmp 17) (by rfl) w5.heap.size (u8s su) (by rfl) (by rfl) 48 (u8s (List.replicate 32 0)) (Blk.new w5 _ _) (by rw [u8s_size, HSI.out.1]; exact rid_size) (by rw [u8s_size, u8s_size, HSI.out.1]; rfl) (u8s_one _) ?_
      have b6 : Below w5.heap.size w5 ((w5.alloc (.cells (u8s (List.replicate 32 0)) 48)).setRow w5.heap.size (u8s su)) := below_row ((Below.refl _ _).alloc (Nat.le_refl _) _) (Nat.le_refl _) _
      have HB6 := Lib.hid (below_then HB5.out b6)
      have hblk : Blk ((w5.alloc (.cells (u8s (List.replicate 32 0)) 48)).setRow w5.heap.size (u8s su)) w5.heap.size 48 (u8s su) := (Blk.new w5 _ _).row _
      have hr6 := rd_blk hblk (by rw [HSI.out.1]; decide)
      rw [HSI.out.1] at hr6
      have cv := conv_rd hr6
      clear b6 hblk hr6
      generalize (w5.alloc (.cells (u8s (List.replicate 32 0)) 48)).setRow w5.heap.size (u8s su) = w6 at HB6 cv ⊢
      generalize w5.heap.size = g6 at cv ⊢
      simp only [Act.put]
      by_cases he : id = su
      · have HN7 : Hid (Pk.at_ (Pk.idx its id (k + 1)) = (k : Int)) := Lib.hid (by rw [HIX.out, if_pos he]; rfl)
        rw [← he, ← HTI.out] at cv
        clear he
        go_wp2
        go_roundw
        case rel => exact ⟨k + 1, by have := HLT.out; omega, by go_num, by rw [HN7.out], HB6⟩
        case measure => have := HLT.out; simp [intOf]; omega
      · have HN7 : Hid (Pk.at_ (Pk.idx its id (k + 1)) = av) := Lib.hid (by rw [HIX.out, if_neg he]; exact HAT.out)
        have hne : ¬ (textOf su).toList = T.toList := by rw [HTI.out]; exact textOf_neD HSI.out.2 HID.out (fun e => he e.symm)
        generalize textOf su = T1 at cv hne
        have hne2 : (T1.toList == T.toList) = false := by simpa using hne
        clear he
        go_wp2
        go_roundw
        case rel => exact ⟨k + 1, by have := HLT.out; omega, by go_num, by rw [HN7.out], HB6⟩
        case measure => have := HLT.out; simp [intOf]; omega
    · obtain rfl : k = n := by omega
      have ik : ¬ ((k : Nat) : Int) < k := by omega
      have HE := Lib.hid (HPF.out _ _ ⟨rfl, HB.out⟩)
      generalize Pk.at_ (Pk.idx its id k) = av at HE ⊢
      go_wp2
      go_ret
      exact HE.out
end Go.Proofs.YtolfphfdeccleaaGreatDoor
/- The functions that Read and Rest hand to Take. -/
namespace Go.Proofs.YtolfphfdeccleaaGreatDoor
open Go Go.RowKit
/-- A field whose bytes lie outside the blocks of S. -/
structure FR (S : Nat → Prop) (w : World) (f : Fld) : Prop where
  rd : Rd w (.slice f.A f.l f.c) f.bs
  len : f.bs.length = f.l
  own : 0 < f.l → ∃ g, f.A = some ⟨g, 0, none⟩ ∧ ¬ S g ∧ g < w.heap.size
theorem Rd.kpt {S : Nat → Prop} {w w' : World} {g n c : Nat} {xs : List Nat} (h : Rd w (.slice (some ⟨g, 0, none⟩) n c) xs) (k : Kpt S w w') (hg : ¬ S g) : Rd w' (.slice (some ⟨g, 0, none⟩) n c) xs := by
  obtain ⟨A, c', hv, hc, hA⟩ := h
  injection hv with e1 e2 e3
  subst e1 e2 e3
  refine ⟨_, _, rfl, hc, fun h0 => ?_⟩
  obtain ⟨b, o, ha, hb, hx⟩ := hA h0
  injection ha with ha
  injection ha with e4 e5
  subst e4 e5
  exact ⟨_, _, rfl, Nat.lt_of_lt_of_le hb k.size, fun i hi => k.cell (hx i hi) hg⟩
theorem Rd.nil {w : World} {A : Option Addr} {c : Nat} (xs : List Nat) (h : xs = []) : Rd w (.slice A 0 c) xs := by subst h; exact ⟨A, c, rfl, Nat.zero_le _, fun h => absurd h (by simp)⟩
theorem FR.step {S : Nat → Prop} {w w' : World} {f : Fld} (h : FR S w f) (k : Kpt S w w') : FR S w' f := by
  refine ⟨?_, h.len, fun h0 => ?_⟩
  · have hl := h.len
    have hr := h.rd
    have ho := h.own
    obtain ⟨n, A, l, c, bs⟩ := f
    dsimp only at hl hr ho ⊢
    rcases Nat.eq_zero_or_pos l with rfl | h0
    · exact Rd.nil bs (List.eq_nil_of_length_eq_zero hl)
    · obtain ⟨g, rfl, hg, _⟩ := ho h0
      exact hr.kpt k hg
  · obtain ⟨g, e, hg, hlt⟩ := h.own h0
    exact ⟨g, e, hg, Nat.lt_of_lt_of_le hlt k.size⟩
theorem FOwn.fr {S : Nat → Prop} {B : Nat} {w : World} {f : Fld} (h : FOwn B w f) (hS : ∀ b, S b → b < B) : FR S w f :=
  ⟨h.rd, h.len, fun h0 => by
    obtain ⟨g, cs, t, e1, e2, hB, _⟩ := h.own h0
    exact ⟨g, e1, fun e => by have := hS g e; omega, hB.lt⟩⟩
/-- Fields as they are handed back, outside the blocks of S. -/
structure Fin' (w : World) (S : Nat → Prop) (u : Value) (fs : List Fld) : Prop where
  out : ∃ A b c, u = .slice A fs.length c ∧ (0 < fs.length → A = some ⟨b, 0, none⟩ ∧ ¬ S b ∧ b < w.heap.size ∧ ∀ j v, (cellsF fs)[j]? = some v → w.cell? ⟨b, j, none⟩ = some v)
  fld : ∀ f ∈ fs, FR S w f
theorem Fin'.step {S : Nat → Prop} {w w' : World} {u : Value} {fs : List Fld} (h : Fin' w S u fs) (k : Kpt S w w') : Fin' w' S u fs := by
  obtain ⟨A, b, c, hu, h2⟩ := h.out
  refine ⟨⟨A, b, c, hu, fun h0 => ?_⟩, fun f hf => (h.fld f hf).step k⟩
  obtain ⟨e1, e2, e3, e4⟩ := h2 h0
  exact ⟨e1, e2, Nat.lt_of_lt_of_le e3 k.size, fun j v hj => k.cell (e4 j v hj) e2⟩
theorem Fin'.row {S : Nat → Prop} {w : World} {u : Value} {fs : List Fld} (h : Fin' w S u fs) (h0 : 0 < w.heap.size) : ∃ A b c, u = .slice A fs.length c ∧ (0 < fs.length → A = some ⟨b, 0, none⟩) ∧ FRow w b 0 fs := by
  obtain ⟨A, b, c, hu, h2⟩ := h.out
  rcases Nat.eq_zero_or_pos fs.length with hz | hz
  · have e := List.eq_nil_of_length_eq_zero hz
    subst e
    exact ⟨A, 0, c, hu, fun h => absurd h (by simp), ⟨fun i hi => absurd hi (by simp), fun i hi => absurd hi (by simp), fun f hf => (by cases hf), h0⟩⟩
  · obtain ⟨e1, e2, e3, e4⟩ := h2 hz
    exact ⟨A, b, c, hu, fun _ => e1, ⟨fun i hi => by rw [Nat.zero_add]; exact e4 _ _ (cellsF_get hi).1, fun i hi => by rw [Nat.zero_add]; exact e4 _ _ (cellsF_get hi).2, fun f hf => ⟨(h.fld f hf).rd, (h.fld f hf).len⟩, e3⟩⟩
theorem FX.fin {w0 wf w : World} {i r k : Nat} {v : Value} {fs : List Fld} {ys : List Nat} (h : FX w0 wf w i r v k fs ys) (hk : fs.length = k) {S : Nat → Prop} (hS : ∀ b, S b → b < wf.heap.size) : Fin' w S v fs := by
  subst hk
  refine ⟨?_, fun f hf => (h.fld f hf).fr hS⟩
  have hrow := h.row
  rcases h.row.2 with ⟨rfl, h0⟩ | ⟨g, cap, cur, rfl, hb, hh, _⟩
  · exact ⟨none, 0, 0, by rw [h0], fun h => by omega⟩
  · refine ⟨_, g, cap, rfl, fun _ => ⟨rfl, fun e => ?_, (Array.getElem?_eq_some_iff.1 hh).1, fun j v hj => ?_⟩⟩
    · have := hS g e; omega
    · have hj2 : j < (cellsF fs).length := (List.getElem?_eq_some_iff.1 hj).1
      rw [cellsF_len] at hj2
      rw [hrow.cellAt j (by omega)]
      exact hj
def RF (l : List (Nat × List Nat)) (r : Nat) (u : Value) (w : World) : Prop := ∃ fs, fs.map Oc.says = l.map Oc.lays ∧ Fin' w (· = r) u fs
theorem RF.step {l : List (Nat × List Nat)} (r : Nat) (u : Value) (a b : World) (h : RF l r u a) (k : a.grownBy b (some r)) : RF l r u b := by
  obtain ⟨fs, h1, h2⟩ := h
  exact ⟨fs, h1, h2.step (Kpt.of_grown k rfl)⟩
theorem says_len {fs : List Fld} {l : List (Nat × List Nat)} (h : fs.map Oc.says = l.map Oc.lays) : fs.length = l.length := by simpa using congrArg List.length h
section
variable (s : ByteArray) (xs : List Nat) (a : Nat → Addr) (sh : Nat) (w0 w : World)
end
end Go.Proofs.YtolfphfdeccleaaGreatDoor
/- The function that Rest hands to Take. -/
namespace Go.Proofs.YtolfphfdeccleaaGreatDoor
open Go Go.RowKit
/-- What Rest's function leaves: the fields, and in block q what is left. -/
def RR (l : List (Nat × List Nat)) (ys : List Nat) (q : Nat) (r : Nat) (u : Value) (w : World) : Prop :=
  ∃ fs A c, fs.map Oc.says = l.map Oc.lays ∧ Fin' w (fun b => b = r ∨ b = q) u fs ∧ w.cell? ⟨q, 0, none⟩ = some (.slice A ys.length c) ∧ FR (fun b => b = r ∨ b = q) w ⟨0, A, ys.length, c, ys⟩ ∧ q ≠ r
theorem RR.step {l : List (Nat × List Nat)} {ys : List Nat} {q : Nat} (r : Nat) (u : Value) (a b : World) (h : RR l ys q r u a) (k : a.grownBy b (some r)) : RR l ys q r u b := by
  obtain ⟨fs, A, c, h1, h2, h3, h4, h5⟩ := h
  have hk : Kpt (fun b => b = r ∨ b = q) a b := Kpt.of_grown k (Or.inl rfl)
  exact ⟨fs, A, c, h1, h2.step hk, k.cell h3 (fun e => h5 (by injection e)), h4.step hk, h5⟩
section
variable (s : ByteArray) (xs : List Nat) (a : Nat → Addr) (sh q : Nat) (w0 w : World)
end
end Go.Proofs.YtolfphfdeccleaaGreatDoor
/- octets.Read and octets.Rest. -/
namespace Go.Proofs.YtolfphfdeccleaaGreatDoor
open Go Go.RowKit
section
variable (s : ByteArray) (xs : List Nat) (a : Nat → Addr) (A : Option Addr) (n c : Nat) (w : World)
end
end Go.Proofs.YtolfphfdeccleaaGreatDoor
/- The chapter's example (alive). -/
namespace Go.Proofs.YtolfphfdeccleaaGreatDoor
open Go Go.RowKit
end Go.Proofs.YtolfphfdeccleaaGreatDoor
/- The document's own reading (cartageref02.Rest): its words. -/
namespace Go.Proofs.YtolfphfdeccleaaGreatDoor
open Go Go.RowKit
namespace Oc
theorem val_mono {l : List Nat} {j : Nat} : ∀ {z : Nat}, j ≤ z → z ≤ l.length → val (l.take j) ≤ val (l.take z)
  | 0, h, _ => by rw [show j = 0 by omega]; exact Nat.le_refl _
  | z + 1, h, hz => by
    by_cases e : j = z + 1
    · rw [e]; exact Nat.le_refl _
    · have := val_mono (l := l) (j := j) (z := z) (by omega) (by omega)
      rw [val_take (by omega)]
      omega
theorem val_from : ∀ (l : List Nat) (a : Nat), l.foldl (fun n b => n * 256 + b) a = a * 256 ^ l.length + val l
  | [], a => by simp [val]
  | x :: l, a => by
    have h1 := val_from l (a * 256 + x)
    have h2 := val_from l x
    rw [List.foldl_cons, h1, List.length_cons, Nat.pow_succ]
    have e : val (x :: l) = x * 256 ^ l.length + val l := by
      show List.foldl _ (0 * 256 + x) l = _
      rw [Nat.zero_mul, Nat.zero_add, h2]
    rw [e, Nat.add_mul, Nat.mul_assoc, Nat.mul_comm 256]
    omega
theorem val_head {l : List Nat} (hb : bytes l) (hl : 8 ≤ l.length) : (4611686018427387903 < val (l.take 8)) ↔ 64 ≤ l.getD 0 0 := by
  rcases l with _ | ⟨x, l⟩
  · simp at hl
  have e : val ((x :: l).take 8) = x * 256 ^ 7 + val (l.take 7) := by
    show List.foldl _ (0 * 256 + x) (l.take 7) = _
    rw [Nat.zero_mul, Nat.zero_add, val_from, List.length_take, Nat.min_eq_left (by simp at hl; omega)]
  have hv := val_lt 7 (l.take 7) (bytes_take (fun y hy => hb y (List.mem_cons_of_mem _ hy)) 7) (by rw [List.length_take]; simp at hl; omega)
  rw [e]
  have h7 : (256 : Nat) ^ 7 = 72057594037927936 := by decide
  rw [h7] at hv ⊢
  show _ ↔ 64 ≤ x
  omega
theorem range_iff {c : Nat} (h : 0 ≤ size c) (h1 : c ≠ 111) (h2 : c ≠ 116) {l : List Nat} (hb : bytes l) (hl : zs c ≤ l.length) : (mostN c < val (l.take (zs c))) ↔ (zs c = 8 ∧ 64 ≤ l.getD 0 0) := by
  rcases letter h with rfl | rfl | rfl | rfl | rfl
  · have hv := val_lt 1 (l.take 1) (bytes_take hb 1) (by rw [List.length_take]; have : zs 98 = 1 := rfl; omega)
    have e1 : zs 98 = 1 := rfl
    have e2 : mostN 98 = 255 := rfl
    rw [e1, e2]
    omega
  · have e1 : zs 119 = 4 := rfl
    have e2 : mostN 119 = 4294967295 := rfl
    rw [e1] at hl
    have hv := val_lt 4 (l.take 4) (bytes_take hb 4) (by rw [List.length_take]; omega)
    have h4 : (256 : Nat) ^ 4 = 4294967296 := by decide
    rw [e1, e2]
    omega
  · have e1 : zs 113 = 8 := rfl
    have e2 : mostN 113 = 4611686018427387903 := rfl
    rw [e1] at hl
    rw [e1, e2, val_head hb hl]
    exact ⟨fun h => ⟨rfl, h⟩, fun h => h.2⟩
  · exact absurd rfl h1
  · exact absurd rfl h2
theorem most_small (c : Nat) : mostN c ≤ 4611686018427387903 := by
  have := most_le c
  unfold mostN
  omega
theorem val_two {l : List Nat} (h : 2 ≤ l.length) : val (l.take 2) = l.getD 0 0 * 256 + l.getD 1 0 := by
  rw [val_take (k := 1) (by omega), val_take (k := 0) (by omega)]
  simp [val]
end Oc
theorem OwnF.step {w0 w w' : World} {v : Value} {k : Nat} {cs : List Value} (h : OwnF w0 w v k cs) (hb : Below w.heap.size w w') : OwnF w0 w' v k cs :=
  ⟨h.own.kept (only_of_below hb none) (by cases hv : v.ownBlock with | none => exact Or.inl rfl | some g => exact Or.inr (by simp)), below_then h.bel hb, h.some_⟩
theorem OwnF.app {w0 w w' : World} {v v2 : Value} {k : Nat} {fs : List Fld} {f : Fld} (h : OwnF w0 w v k (cellsF fs)) (ho : w'.ownsRow w0.heap.size 59 2 v2 (k + 1) (cellsF fs ++ [.int .i64 f.n, .slice f.A f.l f.c])) (hg : w.grownBy w' v.ownBlock) : OwnF w0 w' v2 (k + 1) (cellsF (fs ++ [f])) :=
  ⟨by simpa [cellsF] using ho, below_own h.bel h.own (Nat.le_refl _) hg, by
    rcases ho.2 with ⟨_, h0⟩ | ⟨g, cp, cur, hv, _⟩
    · omega
    · exact ⟨g, cp, hv⟩⟩
end Go.Proofs.YtolfphfdeccleaaGreatDoor
/- The document's Rest, its answers in the memory that it was handed. -/
namespace Go.Proofs.YtolfphfdeccleaaGreatDoor
open Go Go.RowKit
/-- What the document's Rest answers. -/
def RRestPost0 (s : ByteArray) (xs : List Nat) (w0 w : World) (e : Ending) (w' : World) : Prop :=
  Below w.heap.size w w' ∧
  (Oc.known s.data.toList = false → e = .returned (.tuple #[.slice none 0 0, .slice none 0 0, .int .i64 7])) ∧
  (Oc.known s.data.toList = true → ∀ c, Oc.reads (shN s) xs = .bad c → e = .returned (.tuple #[.slice none 0 0, .slice none 0 0, .int .i64 (c : Int)])) ∧
  (Oc.known s.data.toList = true → ∀ l p, Oc.reads (shN s) xs = .ok l p → ∃ A1 b c1 fs A2 c2, e = .returned (.tuple #[.slice A1 fs.length c1, .slice A2 (xs.drop p).length c2, .int .i64 0]) ∧ (0 < fs.length → A1 = some ⟨b, 0, none⟩) ∧ FRow w' b 0 fs ∧ fs.map Oc.says = l.map Oc.lays ∧ Rd w0 (.slice A2 (xs.drop p).length c2) (xs.drop p) ∧ ∀ f ∈ fs, Rd w0 (.slice f.A f.l f.c) f.bs)
/-- what the loop keeps -/
def RRel0 (s : ByteArray) (xs : List Nat) (w0 w wr : World) (vb v : Value) (k : Nat) : Prop :=
  ∃ l p fs, Oc.reads ((shN s).take k) xs = .ok l p ∧ fs.map Oc.says = l.map Oc.lays ∧ Rd w0 vb (xs.drop p) ∧ OwnF w wr v k (cellsF fs) ∧ ∀ f ∈ fs, Rd w0 (.slice f.A f.l f.c) f.bs ∧ f.bs.length = f.l
theorem rrest_bad0 {s : ByteArray} {xs : List Nat} {w0 w w' : World} {c : Nat} (hk : Oc.known s.data.toList = true) (hr : Oc.reads (shN s) xs = .bad c) (hb : Below w.heap.size w w') {e : Ending} (he : e = .returned (.tuple #[.slice none 0 0, .slice none 0 0, .int .i64 (c : Int)])) : RRestPost0 s xs w0 w e w' :=
  ⟨hb, fun h => (by rw [hk] at h; cases h), fun _ c' h => (by rw [hr] at h; injection h with h; subst h; exact he), fun _ l p h => (by rw [hr] at h; cases h)⟩
theorem rrest_done0 {s : ByteArray} {xs : List Nat} {w0 w wr : World} {vb v : Value} (hw : Below w0.heap.size w0 w) (hk : Oc.known s.data.toList = true) (h : RRel0 s xs w0 w wr vb v s.size) : RRestPost0 s xs w0 w (.returned (.tuple #[v, vb, .int .i64 0])) wr := by
  obtain ⟨l, p, fs, h1, h2, h3, h4, h5⟩ := h
  rw [List.take_of_length_le (by rw [shN_len]; exact Nat.le_refl _)] at h1
  refine ⟨h4.bel, fun h => (by rw [hk] at h; cases h), fun _ c' h => (by rw [h1] at h; cases h), fun _ l' p' h => ?_⟩
  rw [h1] at h
  injection h with e1 e2
  subst e1 e2
  have hl : fs.length = s.size := by rw [says_len h2, Oc.reads_len h1, shN_len]
  rw [← hl] at h4
  obtain ⟨g, c, rfl, hrow⟩ := h4.row (fun f hf => ⟨(h5 f hf).1.below hw (Nat.le_refl _), (h5 f hf).2⟩)
  have h3b := h3
  obtain ⟨A2, c2, rfl, _, _⟩ := h3
  exact ⟨_, g, c, fs, A2, c2, rfl, fun _ => rfl, hrow, h2, h3b, fun f hf => (h5 f hf).1⟩
theorem rrel_next0 {s : ByteArray} {xs : List Nat} {w0 w w' : World} {vb v2 : Value} {k n m p : Nat} {l : List (Nat × List Nat)} {x : List Nat} {fs : List Fld} {f : Fld}
    (h1 : Oc.reads ((shN s).take (k + 1)) xs = .ok (l ++ [(n, x)]) (p + m)) (h2 : fs.map Oc.says = l.map Oc.lays) (h3 : Rd w0 vb ((xs.drop p).drop m)) (h4 : OwnF w w' v2 (k + 1) (cellsF (fs ++ [f]))) (h5 : ∀ f ∈ fs, Rd w0 (.slice f.A f.l f.c) f.bs ∧ f.bs.length = f.l)
    (g1 : f.n = (n : Int)) (g2 : f.bs = x) (g3 : Rd w0 (.slice f.A f.l f.c) f.bs ∧ f.bs.length = f.l) : RRel0 s xs w0 w w' vb v2 (k + 1) := by
  refine ⟨_, _, fs ++ [f], h1, says_snoc h2 g1 g2, by rw [List.drop_drop] at h3; exact h3, h4, fun y hy => ?_⟩
  rcases List.mem_append.1 hy with hy | hy
  · exact h5 y hy
  · rw [List.mem_singleton.1 hy]; exact g3
end Go.Proofs.YtolfphfdeccleaaGreatDoor
