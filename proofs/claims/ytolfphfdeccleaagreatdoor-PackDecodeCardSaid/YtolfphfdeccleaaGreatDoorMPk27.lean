/- The document's Decode of packs. -/
import Derived.Test.YtolfphfdeccleaaGreatDoorMPk26s
import Derived.Test.YtolfphfdeccleaaGreatDoorMOb41
import Derived.Test.YtolfphfdeccleaaGreatDoorMDl22s
namespace Go.Proofs.YtolfphfdeccleaaGreatDoor
open Go Go.RowKit
def depV (p : Pk.It) : Value := .int .i64 (p.depth : Int)
/-- what stands between two items of the document's Decode -/
structure RD8 (w0 wr : World) (vr v vd : Value) (kn : List Pk.It) (m : Nat) (ys : List Nat) (k : Nat) (out : List Pk.It) (rest : List Nat) : Prop where
  own : wr.ownsRow w0.heap.size 22 1 v k (out.map (·.val))
  dep : wr.ownsRow w0.heap.size 3 1 vd k (out.map depV)
  len : out.length = k
  txt : ∀ p ∈ out, Rd wr p.val p.text ∧ Sha.Byte p.text
  off : ∀ x, v.ownBlock = some x ∨ vd.ownBlock = some x → ∀ p ∈ out, OffB p.val x
  rst : Rd w0 vr rest
  byt : Sha.Byte rest
  lrs : rest.length ≤ 2000
  bel : Below w0.heap.size w0 wr
  go : Pk.go (kn.map Pk.It.item) m [] ys = Pk.go (kn.map Pk.It.item) (m - k) (out.map Pk.It.item) rest
  gd : Pk.Good (out.map Pk.It.item)
theorem RD8.below {w0 wr w' : World} {vr v vd : Value} {kn : List Pk.It} {m : Nat} {ys : List Nat} {k : Nat} {out : List Pk.It} {rest : List Nat} (h : RD8 w0 wr vr v vd kn m ys k out rest) (hb : Below wr.heap.size wr w') : RD8 w0 w' vr v vd kn m ys k out rest :=
  ⟨h.own.kept (only_of_below hb none) (by cases hv : v.ownBlock with | none => exact Or.inl rfl | some g => exact Or.inr (by simp)), h.dep.kept (only_of_below hb none) (by cases hv : vd.ownBlock with | none => exact Or.inl rfl | some g => exact Or.inr (by simp)), h.len, fun p hp => ⟨(h.txt p hp).1.below hb (Nat.le_refl _), (h.txt p hp).2⟩, h.off, h.rst, h.byt, h.lrs, below_then h.bel hb, h.go, h.gd⟩
theorem RD8.txts {w0 wr : World} {vr v vd : Value} {kn : List Pk.It} {m : Nat} {ys : List Nat} {k : Nat} {out : List Pk.It} {rest : List Nat} (h : RD8 w0 wr vr v vd kn m ys k out rest) : Txts wr v out :=
  ⟨rdl_own (by have h1 := h.own; exact h1) (by rw [List.length_map, h.len]), h.txt⟩
theorem own_ty {w : World} {B k t : Nat} {v : Value} {cs : List Value} (h : w.ownsRow B t 1 v k cs) {x : Nat} (hx : v.ownBlock = some x) : B ≤ x ∧ x < w.heap.size ∧ ∃ cu, Blk w x t cu := by
  rcases h.2 with ⟨hv, _⟩ | ⟨g, cap, cur, hv, hb, hh, _⟩
  · rw [hv] at hx; simp [Value.ownBlock] at hx
  · rw [hv] at hx
    obtain rfl : g = x := by simpa [Value.ownBlock] using hx
    exact ⟨hb, (Array.getElem?_eq_some_iff.1 hh).1, cur, hh⟩
theorem own_apart {w : World} {B k j t s : Nat} {v u : Value} {cs ds : List Value} (h : w.ownsRow B t 1 v k cs) (h' : w.ownsRow B s 1 u j ds) (hne : t ≠ s) {x : Nat} (hx : v.ownBlock = some x) : u.ownBlock ≠ some x := fun hu => by
  obtain ⟨_, _, c1, h1⟩ := own_ty h hx
  obtain ⟨_, _, c2, h2⟩ := own_ty h' hu
  unfold Blk at h1 h2
  rw [h1] at h2
  injection h2 with h2
  injection h2 with _ h2 _
  exact hne h2
theorem below_grow {w0 w w' : World} {row : Option Nat} (h : Below w0.heap.size w0 w) (hg : w.grownBy w' row) (hr : ∀ x, row = some x → w0.heap.size ≤ x) : Below w0.heap.size w0 w' :=
  ⟨hg.os.trans h.os, hg.tape.trans h.tape, hg.output.trans h.output, Nat.le_trans h.size hg.size, fun b hb => (hg.block b (Nat.lt_of_lt_of_le hb h.size) (fun e => by have := hr b e.symm; omega)).trans (h.block b hb)⟩
theorem rd_grow {w w' : World} {row : Option Nat} {v : Value} {xs : List Nat} (h : Rd w v xs) (hg : w.grownBy w' row) (ho : ∀ x, row = some x → OffB v x) : Rd w' v xs := by
  cases row with
  | none => exact h.below (B := w.heap.size) ⟨hg.os, hg.tape, hg.output, hg.size, fun b hb => hg.block b hb (by simp)⟩ (Nat.le_refl _)
  | some x => exact rd_off h hg (ho x rfl)
theorem find_mem {l : List Pk.Item} {id : List Nat} {p : Pk.Item} (h : Pk.find l id = some p) : ∃ a ∈ l, a = p := by
  have key : ∀ (l : List Pk.Item) (o : Option Pk.Item), l.foldl (fun o p => if id = Sha.sum p.1 then some p else o) o = some p → p ∈ l ∨ o = some p := by
    intro l
    induction l with
    | nil => intro o h; exact Or.inr h
    | cons a l ih =>
      intro o h
      rw [List.foldl_cons] at h
      rcases ih _ h with h | h
      · exact Or.inl (List.mem_cons_of_mem _ h)
      · split at h
        · cases h; exact Or.inl (List.mem_cons_self ..)
        · exact Or.inr h
  rcases key l none h with h | h
  · exact ⟨p, h, rfl⟩
  · cases h
/-- how the document's Decode ends -/
def RDecPost (w : World) (kn : List Pk.It) (xs : List Nat) (e : Ending) (w' : World) : Prop :=
  Below w.heap.size w w' ∧ match Pk.decode (kn.map Pk.It.item) xs with
  | .bad c => e = .returned (.tuple #[.slice none 0 0, .slice none 0 0, .int .i64 (c : Int)])
  | .ok l => ∃ v vd out, out.map Pk.It.item = l ∧ e = .returned (.tuple #[v, vd, .int .i64 0]) ∧ Txts w' v out ∧ RdL w' vd (out.map depV)
theorem RDecPost.bad {w w' : World} {kn : List Pk.It} {xs : List Nat} {e : Ending} {c : Nat} (h : Pk.decode (kn.map Pk.It.item) xs = .bad c) (he : e = .returned (.tuple #[.slice none 0 0, .slice none 0 0, .int .i64 (c : Int)])) (hb : Below w.heap.size w w') : RDecPost w kn xs e w' := by
  unfold RDecPost; rw [h]; exact ⟨hb, he⟩
theorem told_0 (out kn : List Pk.Item) (zs : List Nat) : Pk.told out kn (0 :: zs) = match Pk.text zs with | none => .bad 2 | some q => .ok ((q.1, 0), q.2) := by rw [Pk.told_cons, if_pos rfl]; cases Pk.text zs <;> rfl
theorem told_1 (out kn : List Pk.Item) (zs : List Nat) : Pk.told out kn (1 :: zs) = match Pk.ot zs with
    | none => .bad 2
    | some r => match Pk.base out kn r.1 with
      | none => .bad 9
      | some p => if 5 ≤ p.2 then .bad 8 else match Dl.applyP p.1 r.2.1 with
        | .err c => .bad (c + 1)
        | .ok t => .ok ((t, p.2 + 1), r.2.2) := by
  rw [Pk.told_cons, if_neg (by decide), if_pos rfl]
  unfold Pk.ot
  by_cases h : zs.length < 32
  · rw [if_pos h, if_pos h]
  · rw [if_neg h, if_neg h]
    cases Pk.text (zs.drop 32) <;> rfl
theorem told_7 (out kn : List Pk.Item) (k : Nat) (zs : List Nat) (h : 1 < k) : Pk.told out kn (k :: zs) = .bad 7 := by rw [Pk.told_cons, if_neg (by omega), if_neg (by omega)]
theorem base_bse (out kn : List Pk.It) (id : List Nat) : Pk.base (out.map Pk.It.item) (kn.map Pk.It.item) id = (Pk.bse out kn id).map Pk.It.item := (Pk.bse_item out kn id).symm
theorem step_bad {out kn : List Pk.Item} {xs : List Nat} {c : Nat} (h : Pk.told out kn xs = .bad c) : Pk.step out kn xs = .bad c := by unfold Pk.step; rw [h]
theorem step_adm {out kn : List Pk.Item} {xs : List Nat} {q : Pk.Item × List Nat} (h : Pk.told out kn xs = .ok q) : Pk.step out kn xs = if Pk.adm out q.1.1 = 0 then .ok q else .bad (Pk.adm out q.1.1) := by unfold Pk.step; rw [h]
theorem fnd_isSome (out : List Pk.It) (id : List Nat) : (Pk.find (out.map Pk.It.item) id).isSome = (Pk.idx out id out.length).isSome := by
  rw [← Pk.fnd_item, (Pk.idx_all out id).1, Option.isSome_map]
  cases h : Pk.idx out id out.length with
  | none => rfl
  | some i => simp [List.getElem?_eq_getElem ((Pk.idx_all out id).2 i h)]
theorem told_text_byte {out kn : List Pk.Item} {xs : List Nat} {q : Pk.Item × List Nat} (hx : Sha.Byte xs) (ho : ∀ p ∈ out, Sha.Byte p.1) (hk : ∀ p ∈ kn, Sha.Byte p.1) (h : Pk.told out kn xs = .ok q) : Sha.Byte q.1.1 := by
  obtain _ | ⟨k, ys⟩ := xs
  · cases h
  · have hy : Sha.Byte ys := fun i => by simpa using hx (i + 1)
    by_cases h0 : k = 0
    · subst h0
      rw [told_0] at h
      split at h
      · cases h
      · rename_i r hr
        cases h
        exact (text_byte hy hr).1
    · by_cases h1 : k = 1
      · subst h1
        rw [told_1] at h
        split at h
        · cases h
        · rename_i r hr
          have hrb : Sha.Byte r.2.1 := by
            unfold Pk.ot at hr
            split at hr
            · cases hr
            · obtain ⟨s, hs, rfl⟩ := Option.map_eq_some_iff.1 hr
              exact (text_byte (byte_drop hy 32) hs).1
          split at h
          · cases h
          · rename_i p hp
            have hpb : Sha.Byte p.1 := by
              unfold Pk.base at hp
              split at hp
              · rename_i p' hp'
                cases hp
                obtain ⟨a, ha, rfl⟩ := find_mem hp'
                exact ho _ ha
              · obtain ⟨a, ha, rfl⟩ := find_mem hp
                exact hk _ ha
            split at h
            · cases h
            · split at h
              · cases h
              · rename_i t ht
                cases h
                exact (applyP_byte hpb hrb ht).1
      · rw [told_7 _ _ _ _ (by omega)] at h; cases h
theorem RD8.step {w0 wr w5 w6 w7 w8 : World} {vr vr2 v vd v2 vd2 : Value} {kn : List Pk.It} {m : Nat} {ys : List Nat} {k : Nat} {out : List Pk.It} {rest : List Nat} (h : RD8 w0 wr vr v vd kn m ys k out rest) (hk : k < m) (hkb : ∀ p ∈ kn, Sha.Byte p.text) {p : Pk.It} {q : Pk.Item × List Nat} (hst : Pk.step (out.map Pk.It.item) (kn.map Pk.It.item) rest = .ok q) (hpi : p.item = q.1) (hr2 : Rd w0 vr2 q.2)
    (h5 : Below wr.heap.size wr w5) (hp5 : Rd w5 p.val p.text) (hnew : Rd w0 p.val p.text ∨ ∃ A n c, p.val = .slice A n c ∧ NewAt wr.heap.size A n)
    (ho : w6.ownsRow w0.heap.size 22 1 v2 (k + 1) (out.map (·.val) ++ [p.val])) (hg : w5.grownBy w6 v.ownBlock) (hl : v2.ownBlock = v.ownBlock ∨ v2.ownBlock = some w5.heap.size)
    (h7 : Below w6.heap.size w6 w7) (ho2 : w8.ownsRow w0.heap.size 3 1 vd2 (k + 1) (out.map depV ++ [depV p])) (hg2 : w7.grownBy w8 vd.ownBlock) (hl2 : vd2.ownBlock = vd.ownBlock ∨ vd2.ownBlock = some w7.heap.size) :
    RD8 w0 w8 vr2 v2 vd2 kn m ys (k + 1) (out ++ [p]) q.2 := by
  obtain ⟨h1, h2⟩ := Pk.step_ok hst
  have hq := h.below h5
  have hB0 := h.bel.size
  have h5s := h5.size
  have h56 := hg.size
  have h67 := h7.size
  -- where the two rows lie
  have ovx : ∀ x, v.ownBlock = some x → w0.heap.size ≤ x ∧ x < wr.heap.size := fun x hx => ⟨(own_ty h.own hx).1, (own_ty h.own hx).2.1⟩
  have odx : ∀ x, vd.ownBlock = some x → w0.heap.size ≤ x ∧ x < wr.heap.size := fun x hx => ⟨(own_ty h.dep hx).1, (own_ty h.dep hx).2.1⟩
  have hpo : ∀ x, w0.heap.size ≤ x → x < wr.heap.size → OffB p.val x := fun x hx hx2 => by
    rcases hnew with hr | ⟨A, n, c, hv, hn⟩
    · exact off_of_rd hr hx
    · rw [hv]; exact off_of_new hn hx2
  have htx : ∀ p' ∈ out ++ [p], Rd w5 p'.val p'.text := fun p' hp' => by
    rcases List.mem_append.1 hp' with hp' | hp'
    · exact (hq.txt p' hp').1
    · rw [List.mem_singleton.1 hp']; exact hp5
  have hof : ∀ x, v.ownBlock = some x ∨ vd.ownBlock = some x → ∀ p' ∈ out ++ [p], OffB p'.val x := fun x hx p' hp' => by
    rcases List.mem_append.1 hp' with hp' | hp'
    · exact h.off x hx p' hp'
    · rw [List.mem_singleton.1 hp']
      rcases hx with hx | hx
      · exact hpo x (ovx x hx).1 (ovx x hx).2
      · exact hpo x (odx x hx).1 (odx x hx).2
  have ht6 : ∀ p' ∈ out ++ [p], Rd w6 p'.val p'.text := fun p' hp' => rd_grow (htx p' hp') hg (fun x hx => hof x (Or.inl hx) p' hp')
  have ht7 : ∀ p' ∈ out ++ [p], Rd w7 p'.val p'.text := fun p' hp' => (ht6 p' hp').below h7 (Nat.le_refl _)
  have ht8 : ∀ p' ∈ out ++ [p], Rd w8 p'.val p'.text := fun p' hp' => rd_grow (ht7 p' hp') hg2 (fun x hx => hof x (Or.inr hx) p' hp')
  have hb6 : Below w0.heap.size w0 w6 := below_grow (below_then h.bel h5) hg (fun x hx => (ovx x hx).1)
  have hb7 : Below w0.heap.size w0 w7 := below_then hb6 h7
  have hb8 : Below w0.heap.size w0 w8 := below_grow hb7 hg2 (fun x hx => (odx x hx).1)
  have ho7 : w7.ownsRow w0.heap.size 22 1 v2 (k + 1) (out.map (·.val) ++ [p.val]) := ho.kept (only_of_below h7 none) (by cases hv : v2.ownBlock with | none => exact Or.inl rfl | some g => exact Or.inr (by simp))
  have hap : ∀ x, v2.ownBlock = some x → vd.ownBlock ≠ some x := fun x hx hd => by
    rcases hl with e | e
    · rw [e] at hx; exact own_apart h.own h.dep (by decide) hx hd
    · rw [e] at hx
      injection hx with hx
      have := (odx x hd).2
      omega
  have ho8 : w8.ownsRow w0.heap.size 22 1 v2 (k + 1) (out.map (·.val) ++ [p.val]) := ho7.kept hg2 (by
    cases hv : v2.ownBlock with
    | none => exact Or.inl rfl
    | some g => exact Or.inr (fun e => hap g hv e.symm))
  refine ⟨by rw [List.map_append]; exact ho8, by rw [List.map_append]; exact ho2, by rw [List.length_append, h.len]; rfl, fun p' hp' => ⟨ht8 p' hp', ?_⟩, fun x hx p' hp' => ?_, hr2, ?_, ?_, hb8, ?_, ?_⟩
  · rcases List.mem_append.1 hp' with hp' | hp'
    · exact (h.txt p' hp').2
    · rw [List.mem_singleton.1 hp']
      have hto := told_text_byte h.byt (fun p hp => by obtain ⟨p', hp', rfl⟩ := List.mem_map.1 hp; exact (h.txt p' hp').2) (fun p hp => by obtain ⟨p', hp', rfl⟩ := List.mem_map.1 hp; exact hkb p' hp') h1
      rw [← hpi] at hto
      exact hto
  · rcases hx with hx | hx
    · rcases hl with e | e
      · rw [e] at hx; exact hof x (Or.inl hx) p' hp'
      · rw [e] at hx; injection hx with hx; exact off_of_rd (htx p' hp') (by omega)
    · rcases hl2 with e | e
      · rw [e] at hx; exact hof x (Or.inr hx) p' hp'
      · rw [e] at hx; injection hx with hx; exact off_of_rd (ht7 p' hp') (by omega)
  · exact told_byte h.byt (fun p hp => by obtain ⟨p', hp', rfl⟩ := List.mem_map.1 hp; exact (h.txt p' hp').2) (fun p hp => by obtain ⟨p', hp', rfl⟩ := List.mem_map.1 hp; exact hkb p' hp') h1
  · have := (Pk.told_len h1).1; have := h.lrs; omega
  · rw [h.go, show m - k = (m - (k + 1)) + 1 by omega, Pk.go, hst, List.map_append]
    simp only
    rw [← hpi]
    rfl
  · intro p' hp'
    rw [List.map_append] at hp'
    rcases List.mem_append.1 hp' with hp' | hp'
    · exact h.gd p' hp'
    · have e : p' = p.item := by simpa using hp'
      rw [e, hpi]
      have ha := Pk.admit_zero h2
      exact ⟨ha.1, ha.2.1, (Pk.told_len h1).2⟩
theorem eli_info : (Tryz.prog.info? 3).map (fun i => (i.zero, i.size, i.bytes)) = some (some (.int .i64 0), 1, 8) := by kernel_rfl
theorem told_bse {out kn : List Pk.It} {zs idb dl rs : List Nat} {p : Pk.It} (hot : Pk.ot zs = some (idb, dl, rs)) (hb : Pk.bse out kn idb = some p) : Pk.told (out.map Pk.It.item) (kn.map Pk.It.item) (1 :: zs) = if 5 ≤ p.depth then .bad 8 else match Dl.applyP p.text dl with | .err c => .bad (c + 1) | .ok t => .ok ((t, p.depth + 1), rs) := by
  rw [told_1, hot]
  simp only
  rw [base_bse, hb]
  rfl
theorem told_no {out kn : List Pk.It} {zs idb dl rs : List Nat} (hot : Pk.ot zs = some (idb, dl, rs)) (hb : Pk.bse out kn idb = none) : Pk.told (out.map Pk.It.item) (kn.map Pk.It.item) (1 :: zs) = .bad 9 := by
  rw [told_1, hot]
  simp only
  rw [base_bse, hb]
  rfl
theorem own_formT {w : World} {B k t : Nat} {v : Value} {cs : List Value} (h : w.ownsRow B t 1 v k cs) : ∃ A c, v = .slice A k c := by
  rcases h.2 with ⟨hv, hn⟩ | ⟨g, cap, cur, hv, _⟩
  · exact ⟨none, 0, by rw [hv, hn]⟩
  · exact ⟨_, cap, hv⟩
theorem own_lit0 (w : World) (B t : Nat) (h : B ≤ w.heap.size) : (w.alloc (.cells #[] t)).ownsRow B t 1 (.slice (some ⟨w.heap.size, 0, none⟩) 0 0) 0 [] :=
  ⟨rfl, Or.inr ⟨w.heap.size, 0, #[], rfl, h, heap_alloc_new _ _, Nat.le_refl _, by decide, rfl, rfl⟩⟩
theorem rd8_dep {w0 w13 w14 w15 : World} {vr v vd : Value} {kn : List Pk.It} {m : Nat} {ys : List Nat} {k : Nat} {out : List Pk.It} {rest : List Nat} (h : RD8 w0 w13 vr v vd kn m ys k out rest) (hg : w13.grownBy w14 v.ownBlock) (hb : Below w14.heap.size w14 w15) : w15.ownsRow w0.heap.size 3 1 vd k (out.map depV) := by
  have h1 := h.dep.kept hg (by
    cases hv : vd.ownBlock with
    | none => exact Or.inl rfl
    | some g => exact Or.inr (fun e => own_apart h.dep h.own (by decide) hv e.symm))
  exact h1.kept (only_of_below hb none) (by cases hv : vd.ownBlock with | none => exact Or.inl rfl | some g => exact Or.inr (by simp))
theorem rapply_all (A A2 : Option Addr) (nb cb n c : Nat) (base d : List Nat) (w : World) (hB : Rd w (.slice A nb cb) base) (hD : Rd w (.slice A2 n c) d) (hb : Sha.Byte d) (hbb : Sha.Byte base) (hl : n ≤ 3000) (hlb : nb ≤ 400) :
    Calls Tryz.prog 24 #[.slice A nb cb, .slice A2 n c] w (RApplyPost (Dl.applyP base d) w) := by
  by_cases h : n < 4 ∨ Dl.two d 0 ≠ nb ∨ 300 < Dl.two d 2
  · exact rapply_first A A2 nb cb n c base d w hB hD hb hl hlb h
  · exact rapply_run A A2 nb cb n c base d w hB hD hb hbb hl hlb (by omega) (by omega) (by omega)
theorem ot_byte {zs idb dl rs : List Nat} (hz : Sha.Byte zs) (h : Pk.ot zs = some (idb, dl, rs)) : Sha.Byte idb ∧ Sha.Byte dl ∧ dl.length ≤ zs.length := by
  unfold Pk.ot at h
  split at h
  · cases h
  · obtain ⟨s, hs, he⟩ := Option.map_eq_some_iff.1 h
    simp only [Prod.mk.injEq] at he
    obtain ⟨e1, e2⟩ := he
    have h1 := (text_byte (byte_drop hz 32) hs).1
    have h2 := (Pk.text_len hs).2
    rw [e2] at h1 h2
    rw [List.length_drop] at h2
    simp only at h1 h2
    exact ⟨e1 ▸ byte_take hz 32, h1, by omega⟩
set_option maxRecDepth 100000 in
set_option maxHeartbeats 16000000 in
theorem rdecode_any (Ab : Option Addr) (nb cb : Nat) (xs : List Nat) (A : Option Addr) (n c : Nat) (kn : List Pk.It) (w : World) (hv : Rd w (.slice Ab nb cb) xs) (hb : Sha.Byte xs) (hz : xs.length ≤ 1000000) (hT : Txts w (.slice A n c) kn) (hd : ∀ p ∈ kn, p.depth = 0) (hl : ∀ p ∈ kn, p.text.length ≤ 400) (hn : kn.length ≤ 100) :
    Calls Tryz.prog 10 #[.slice Ab nb cb, .slice A n c] w (RDecPost w kn xs) := by
  have hnb : nb = xs.length := by obtain ⟨_, _, hv, _⟩ := hv; injection hv
  by_cases h2000 : 2000 < nb
  · have HD : Hid (Pk.decode (kn.map Pk.It.item) xs = .bad 13) := Lib.hid (by unfold Pk.decode; rw [if_pos (by omega)])
    have g1 : (2000 : Int) < (nb : Int) := by omega
    clear hv hb hT hd hl hn hnb h2000
    go_enter Tryz.func10, Tryz.ntmps10
    go_wp2
    go_ret3
    exact RDecPost.bad HD.out rfl (Below.refl _ _)
  have g1 : ¬ (2000 : Int) < (nb : Int) := by omega
  have CB := rest_b xs Ab nb cb w w (Below.refl _ _) hv hb hz
  unfold RestB at CB
  have HLEN : Hid (xs.length ≤ 2000) := Lib.hid (by omega)
  clear hv hnb h2000
  obtain _ | ⟨m, ys⟩ := xs
  · simp only at CB
    have HD : Hid (Pk.decode (kn.map Pk.It.item) [] = .bad 2) := Lib.hid rfl
    clear hb hT hd hl hn
    go_enter Tryz.func10, Tryz.ntmps10
    go_wp2_with (go_at_call 22; refine pause ?_)
    unfold Paused
    refine CB.mono ?_
    rintro e w5 ⟨hb5, rfl⟩
    have HB5 := Lib.hid hb5
    clear hb5 CB
    go_wp2
    go_ret3
    exact RDecPost.bad HD.out rfl HB5.out
  simp only at CB
  by_cases h64 : 64 < m
  · have HD : Hid (Pk.decode (kn.map Pk.It.item) (m :: ys) = .bad 22) := Lib.hid (by unfold Pk.decode; rw [if_neg (by have := HLEN.out; omega)]; simp only; rw [if_pos h64])
    have g2 : (64 : Int) < (m : Int) := by omega
    clear hb hT hd hl hn h64
    go_enter Tryz.func10, Tryz.ntmps10
    go_wp2_with (go_at_call 22; refine pause ?_)
    unfold Paused
    refine CB.mono ?_
    rintro e w5 ⟨hb5, b5, c5, A5, c5', rfl, p5, hr5⟩
    have HB5 := Lib.hid hb5
    clear hb5 CB hr5
    go_wp2
    go_ret3
    exact RDecPost.bad HD.out rfl HB5.out
  have HDC : Hid (Pk.decode (kn.map Pk.It.item) (m :: ys) = Pk.go (kn.map Pk.It.item) m [] ys) := Lib.hid (by unfold Pk.decode; rw [if_neg (by have := HLEN.out; omega)]; simp only; rw [if_neg h64])
  have HM : Hid (m ≤ 64) := Lib.hid (by omega)
  have g2 : ¬ (64 : Int) < (m : Int) := by omega
  have HYB : Hid (Sha.Byte ys) := Lib.hid (fun i => by simpa using hb (i + 1))
  have HKB : Hid (∀ p ∈ kn, Sha.Byte p.text) := Lib.hid (fun p hp => (hT.rd p hp).2)
  have HKD0 := Lib.hid hd
  have HKL := Lib.hid hl
  have HKN := Lib.hid hn
  have HKT := Lib.hid hT
  clear hb hT hd hl hn h64
  go_enter Tryz.func10, Tryz.ntmps10
  go_wp2_with (go_at_call 22; refine pause ?_)
  unfold Paused
  refine CB.mono ?_
  rintro e w5 ⟨hb5, b5, c5, A5, c5', rfl, p5, hr5⟩
  have s6 : (w5.alloc (.cells #[] 22)).heap.size = w5.heap.size + 1 := by simp
  have HG0 : Hid (RD8 w ((w5.alloc (.cells #[] 22)).alloc (.cells #[] 3)) (.slice A5 ys.length c5') (.slice (some ⟨w5.heap.size, 0, none⟩) 0 0) (.slice (some ⟨w5.heap.size + 1, 0, none⟩) 0 0) kn m ys 0 [] ys) := Lib.hid (by
    have o1 := own_lit0 w5 w.heap.size 22 hb5.size
    have o2 := own_lit0 (w5.alloc (.cells #[] 22)) w.heap.size 3 (by rw [s6]; have := hb5.size; omega)
    rw [s6] at o2
    have b6 : Below w.heap.size w ((w5.alloc (.cells #[] 22)).alloc (.cells #[] 3)) := (hb5.alloc hb5.size _).alloc (by rw [s6]; have := hb5.size; omega) _
    refine ⟨o1.kept (only_of_below ((Below.refl _ _).alloc (Nat.le_refl _) _) none) (Or.inr (fun e => by cases e)), o2, rfl, fun p hp => (by cases hp), fun x hx p hp => (by cases hp), hr5, HYB.out, by have h := HLEN.out; rw [List.length_cons] at h; omega, b6, by rw [Nat.sub_zero]; rfl, fun p hp => (by cases hp)⟩)
  clear hb5 CB hr5 s6
  generalize ys.length = ny at HG0 ⊢
  go_wp2
  go_loopw [8, 11, 12, 13] (fun vr v vd j wr => ∃ k : Nat, k ≤ m ∧ j = .int .i64 k ∧ ∃ out rest, Hid (RD8 w wr vr v vd kn m ys k out rest)) (fun _ _ _ j _ => m - (intOf j).toNat)
  case atStart => exact ⟨0, Nat.zero_le _, rfl, [], ys, HG0⟩
  case round =>
    obtain ⟨k, hk, rfl, out, rest, HRD⟩ := hrel
    clear p5
    obtain ⟨Ar, cr, hvr⟩ : ∃ A c, u8 = .slice A rest.length c := by obtain ⟨A, c, h, _⟩ := HRD.out.rst; exact ⟨A, c, h⟩
    subst hvr
    obtain ⟨Av, cv1, hv1⟩ := own_formT HRD.out.own
    subst hv1
    obtain ⟨Ad, cd1, hd1⟩ := own_formT HRD.out.dep
    subst hd1
    obtain ⟨nr, hnr⟩ : ∃ n, n = rest.length := ⟨_, rfl⟩
    rw [← hnr] at HRD ⊢
    have HNR := Lib.hid hnr
    clear hnr
    by_cases hlt : k < m
    · have i1 : ((k : Nat) : Int) < m := by omega
      have i2 : (0 : Int) ≤ ((k : Nat) : Int) := by omega
      have HKM : Hid (k ≤ 64 ∧ out.length = k) := Lib.hid ⟨by have := HM.out; omega, HRD.out.len⟩
      have i3 : ((k : Nat) : Int) < 64 := by have := HM.out; omega
      have HLT := Lib.hid hlt
      have HTX : Hid (∀ wx, Below wr.heap.size wr wx → Txts wx (.slice Av k cv1) out) := Lib.hid (fun wx h => HRD.out.txts.below h)
      have HOL : Hid (∀ p ∈ out, p.text.length ≤ 100000) := Lib.hid (fun p hp => by have := (HRD.out.gd p.item (List.mem_map_of_mem hp)).1; have e : p.item.1 = p.text := rfl; rw [e] at this; omega)
      have HBAD : Hid (∀ c, Pk.step (out.map Pk.It.item) (kn.map Pk.It.item) rest = .bad c → ∀ e w', e = .returned (.tuple #[.slice none 0 0, .slice none 0 0, .int .i64 (c : Int)]) → Below w.heap.size w w' → RDecPost w kn (m :: ys) e w') := Lib.hid (fun c hs e w' he hb => RDecPost.bad (by rw [HDC.out, HRD.out.go, show m - k = (m - k - 1) + 1 by omega, Pk.go, hs]) he hb)
      have CB := rest_b rest Ar nr cr w wr HRD.out.bel HRD.out.rst HRD.out.byt (by have := HRD.out.lrs; omega)
      unfold RestB at CB
      have HRB := Lib.hid HRD.out.byt
      have HRL := Lib.hid HRD.out.lrs
      clear hlt hk
      obtain _ | ⟨kd, zs⟩ := rest
      · simp only at CB
        have HE := Lib.hid (HBAD.out 2 (step_bad rfl))
        go_wp2_with (go_at_call 22; refine pause ?_)
        unfold Paused
        refine CB.mono ?_
        rintro e w5 ⟨hb5, rfl⟩
        have HB5 := Lib.hid (below_then HRD.out.bel hb5)
        clear hb5 CB
        go_wp2
        go_ret3
        exact HE.out _ _ (by rfl) HB5.out
      simp only at CB
      have HZB : Hid (Sha.Byte zs) := Lib.hid (fun i => by simpa using HRB.out (i + 1))
      have HZL : Hid (zs.length ≤ 2000) := Lib.hid (by have h := HRL.out; rw [List.length_cons] at h; omega)
      by_cases k7 : 1 < kd
      · have HE := Lib.hid (HBAD.out 7 (step_bad (told_7 _ _ _ _ k7)))
        have gk : (1 : Int) < (kd : Int) := by omega
        have gk2 : ((kd : Int) == 1) = false := by simp; omega
        clear k7
        go_wp2_with (go_at_call 22; refine pause ?_)
        unfold Paused
        refine CB.mono ?_
        rintro e w5 ⟨hb5, b5, c5, A5, c5', rfl, p5, hr5⟩
        have HB5 := Lib.hid (below_then HRD.out.bel hb5)
        clear hb5 CB hr5
        go_wp2
        go_ret3
        exact HE.out _ _ (by rfl) HB5.out
      by_cases k0 : kd = 0
      · have HKD := Lib.hid k0
        go_wp2_with (go_at_call 22; refine pause ?_)
        unfold Paused
        refine CB.mono ?_
        rintro e w5 ⟨hb5, b5, c5, A5, c5', rfl, q5, hr5⟩
        have p5 : w5.cell? ⟨b5, 0, none⟩ = some (.int .i64 0) := by rw [q5, k0]; rfl
        have HB5 := Lib.hid hb5
        obtain ⟨nz, hnz⟩ : ∃ n, n = zs.length := ⟨_, rfl⟩
        rw [← hnz] at hr5 ⊢
        have CT := rest_t zs A5 nz c5' w w5 (below_then HRD.out.bel hb5) hr5 HZB.out (by have := HZL.out; omega)
        unfold RestT at CT
        clear hb5 CB hr5 q5 hnz k0 k7
        cases htx : Pk.text zs with
        | none =>
          rw [htx] at CT
          simp only at CT
          have HE := Lib.hid (HBAD.out 2 (step_bad (by rw [HKD.out, told_0, htx])))
          clear htx
          go_wp2_with (go_at_call 22; refine pause ?_)
          unfold Paused
          refine CT.mono ?_
          rintro e w6 ⟨hb6, rfl⟩
          have HB6 := Lib.hid (below_then (below_then HRD.out.bel HB5.out) hb6)
          clear hb6 CT
          go_wp2
          go_ret3
          exact HE.out _ _ (by rfl) HB6.out
        | some q =>
          obtain ⟨t, rs2⟩ := q
          rw [htx] at CT
          simp only at CT
          have HTO : Hid (Pk.told (out.map Pk.It.item) (kn.map Pk.It.item) (kd :: zs) = .ok ((t, 0), rs2)) := Lib.hid (by rw [HKD.out, told_0, htx])
          have HTB := Lib.hid (text_byte HZB.out htx).1
          clear htx
          go_wp2_with (go_at_call 22; refine pause ?_)
          unfold Paused
          refine CT.mono ?_
          rintro e wt ⟨hb6, b6, c6', A6, c6, At, ct, rfl, p6, hrt, hrs⟩
          have HBT := Lib.hid (below_then HB5.out hb6)
          have HTT : Hid (Rd wt (.slice At t.length ct) t) := Lib.hid (hrt.below (below_then (below_then HRD.out.bel HB5.out) hb6) (Nat.le_refl _))
          have HNW : Hid (Rd w (.slice At t.length ct) t ∨ ∃ A n c, (Value.slice At t.length ct) = .slice A n c ∧ NewAt wr.heap.size A n) := Lib.hid (Or.inl hrt)
          have HRS := Lib.hid hrs
          clear hb6 CT hrt hrs p5
          obtain ⟨nt, hnt⟩ : ∃ n, n = t.length := ⟨_, rfl⟩
          have HNT := Lib.hid hnt
          rw [← hnt] at HTT HNW p6
          by_cases hlg : 300 < nt
          · have CP := rparse_large At nt ct wt hlg
            have HAD : Hid (Pk.adm (out.map Pk.It.item) t = 13) := Lib.hid (by unfold Pk.adm; rw [if_pos (by omega)])
            have HE := Lib.hid (HBAD.out 13 (by rw [step_adm HTO.out]; simp only; rw [HAD.out, if_neg (by decide)]))
            clear hnt
            go_wp2_with (go_at_call 25; refine pause ?_)
            unfold Paused
            refine CP.mono ?_
            rintro e w8 ⟨rfl, hb8⟩
            have HB8 := Lib.hid (below_then (below_then HRD.out.bel HBT.out) hb8)
            clear hb8 CP hlg
            go_wp2_with (with_reducible (show wpList _ _ _ (Oper.mk _ (Op.store 65 _ _) _ _ _ _ :: _) _ _); refine pause ?_)
            unfold Paused
            change wpList _ _ _ _ _ (w8.alloc (.cells zc0 65))
            refine wpList_store_row (by rfl) 65 (.tmp 26) (.tmp 138) (by rfl) w8.heap.size zc0 (by rfl) (by rfl) 65 zc0 (Blk.new w8 _ _) (by kernel_rfl) (by rfl) (by kernel_rfl) ?_
            have b9 : Below w8.heap.size w8 ((w8.alloc (.cells zc0 65)).setRow w8.heap.size zc0) := below_row ((Below.refl _ _).alloc (Nat.le_refl _) _) (Nat.le_refl _) _
            have HB9 := Lib.hid (below_then HB8.out b9)
            clear b9
            generalize (w8.alloc (.cells zc0 65)).setRow w8.heap.size zc0 = w9 at HB9 ⊢
            generalize w8.heap.size = g9
            simp only [Act.put]
            go_wp2
            go_ret3
            exact HE.out _ _ (by rfl) HB9.out
          have hz300 : t.length ≤ 300 := by omega
          have HZ := Lib.hid hz300
          have CP := rparse_any t At ct wt (by rw [← hnt]; exact HTT.out) (oc_bytes HTB.out) hz300
          rw [← hnt] at CP
          unfold RPost at CP
          cases hpt : Ob.parse t with
          | bad c =>
            have hc0 := Pk.parse_bad_pos hpt
            have HAD : Hid (Pk.adm (out.map Pk.It.item) t = c) := Lib.hid (by unfold Pk.adm; rw [if_neg (by omega), hpt])
            have HE := Lib.hid (HBAD.out c (by rw [step_adm HTO.out]; simp only; rw [HAD.out, if_neg (by omega)]))
            have gc : ((c : Int) != 0) = true := by simp; omega
            have HPT := Lib.hid hpt
            clear hnt hz300 hlg hc0 hpt
            go_wp2_with (go_at_call 25; refine pause ?_)
            unfold Paused
            refine CP.mono ?_
            rintro e w8 ⟨hb8, h2, _⟩
            obtain rfl := h2 c HPT.out
            have HB8 := Lib.hid (below_then (below_then HRD.out.bel HBT.out) hb8)
            clear hb8 h2 CP
            go_wp2_with (with_reducible (show wpList _ _ _ (Oper.mk _ (Op.store 65 _ _) _ _ _ _ :: _) _ _); refine pause ?_)
            unfold Paused
            change wpList _ _ _ _ _ (w8.alloc (.cells zc0 65))
            refine wpList_store_row (by rfl) 65 (.tmp 26) (.tmp 138) (by rfl) w8.heap.size zc0 (by rfl) (by rfl) 65 zc0 (Blk.new w8 _ _) (by kernel_rfl) (by rfl) (by kernel_rfl) ?_
            have b9 : Below w8.heap.size w8 ((w8.alloc (.cells zc0 65)).setRow w8.heap.size zc0) := below_row ((Below.refl _ _).alloc (Nat.le_refl _) _) (Nat.le_refl _) _
            have HB9 := Lib.hid (below_then HB8.out b9)
            clear b9
            generalize (w8.alloc (.cells zc0 65)).setRow w8.heap.size zc0 = w9 at HB9 ⊢
            generalize w8.heap.size = g9
            simp only [Act.put]
            go_wp2
            go_ret3
            exact HE.out _ _ (by rfl) HB9.out
          | ok o =>
            have HAD : Hid (Pk.adm (out.map Pk.It.item) t = if (Pk.idx out (Sha.sum t) out.length).isSome then 20 else 0) := Lib.hid (by unfold Pk.adm; rw [if_neg (by omega), hpt, fnd_isSome])
            have HPT := Lib.hid hpt
            clear hnt hz300 hlg hpt
            go_wp2_with (go_at_call 25; refine pause ?_)
            unfold Paused
            refine CP.mono ?_
            rintro e w8 ⟨hb8, _, h3⟩
            obtain ⟨cs, T1, tc, E1, ec, P1, pc, rfl, hfit, _, hob⟩ := h3 o HPT.out
            have HC36 := Lib.hid (hob.size hfit)
            have HC1 : Hid (cs.all (·.oneCell') = true) := Lib.hid (by rw [hob.cells]; exact cellsOb_one _ _ _ _ _ _ _ _ _ _ _)
            have HB8 := Lib.hid hb8
            clear hb8 h3 CP hfit hob HPT
            go_wp2_with (with_reducible (show wpList _ _ _ (Oper.mk _ (Op.store 65 _ _) _ _ _ _ :: _) _ _); refine pause ?_)
            unfold Paused
            change wpList _ _ _ _ _ (w8.alloc (.cells zc0 65))
            refine wpList_store_row (by rfl) 65 (.tmp 26) (.tmp 138) (by rfl) w8.heap.size cs (by rfl) (by rfl) 65 zc0 (Blk.new w8 _ _) (by rw [HC36.out]; kernel_rfl) (by rw [HC36.out]; rfl) HC1.out ?_
            have b9 : Below w8.heap.size w8 ((w8.alloc (.cells zc0 65)).setRow w8.heap.size cs) := below_row ((Below.refl _ _).alloc (Nat.le_refl _) _) (Nat.le_refl _) _
            have HB9 := Lib.hid (below_then HB8.out b9)
            clear b9
            generalize (w8.alloc (.cells zc0 65)).setRow w8.heap.size cs = w9 at HB9 ⊢
            generalize w8.heap.size = g9
            simp only [Act.put]
            clear HC36 HC1 HB8
            have CID := rid_any (.slice At nt ct) t w9 (HTT.out.below HB9.out (Nat.le_refl _)) HTB.out (by have := HZ.out; omega)
            go_wp2_with (go_at_call 26; refine pause ?_)
            unfold Paused
            refine CID.mono ?_
            rintro e w10 ⟨rfl, hb10⟩
            have HB10 := Lib.hid (below_then HB9.out hb10)
            have HS := Lib.hid (sum_id t)
            clear hb10 CID HB9
            obtain ⟨su, hsu⟩ : ∃ su, su = Sha.sum t := ⟨_, rfl⟩
            rw [← hsu] at HS HAD ⊢
            have HSU := Lib.hid hsu
            clear hsu
            go_wp2_with (with_reducible (show wpList _ _ _ (Oper.mk _ (Op.store 48 _ _) _ _ _ _ :: _) _ _); refine pause ?_)
            unfold Paused
            change wpList _ _ _ _ _ (w10.alloc (.cells (u8s (List.replicate 32 0)) 48))
            refine wpList_store_row (by rfl) 48 (.tmp 28) (.tmp 144) (by rfl) w10.heap.size (u8s su) (by rfl) (by rfl) 48 (u8s (List.replicate 32 0)) (Blk.new w10 _ _) (by rw [u8s_size, HS.out.1]; exact id_size) (by rw [u8s_size, u8s_size, HS.out.1]; rfl) (u8s_one _) ?_
            have b11 : Below w10.heap.size w10 ((w10.alloc (.cells (u8s (List.replicate 32 0)) 48)).setRow w10.heap.size (u8s su)) := below_row ((Below.refl _ _).alloc (Nat.le_refl _) _) (Nat.le_refl _) _
            have HB11 := Lib.hid (below_then HB10.out b11)
            have hblk : Blk ((w10.alloc (.cells (u8s (List.replicate 32 0)) 48)).setRow w10.heap.size (u8s su)) w10.heap.size 48 (u8s su) := (Blk.new w10 _ _).row _
            have hr11 := rd_blk hblk (by rw [HS.out.1]; decide)
            rw [HS.out.1] at hr11
            have cv := conv_rd hr11
            obtain ⟨T11, hT11⟩ : ∃ T, T = textOf su := ⟨_, rfl⟩
            rw [← hT11] at cv
            have HT11 := Lib.hid hT11
            clear b11 HB10 hblk hr11 hT11
            generalize (w10.alloc (.cells (u8s (List.replicate 32 0)) 48)).setRow w10.heap.size (u8s su) = w11 at HB11 cv ⊢
            generalize w10.heap.size = g11 at cv ⊢
            simp only [Act.put]
            have CF := pfind_any Av k cv1 out su T11 w11 HT11.out HS.out.2 (HTX.out w11 (below_next HBT.out HB11.out)) (by have := HKM.out; omega) HOL.out
            unfold RFindPost at CF
            cases hix : Pk.idx out su out.length with
            | some i =>
              rw [hix] at CF
              have HE := Lib.hid (HBAD.out 20 (by rw [step_adm HTO.out]; simp only; rw [HAD.out, hix]; rfl))
              have gi : (0 : Int) ≤ (i : Int) := by omega
              simp only [Pk.at_] at CF
              clear hix
              go_wp2_with (go_at_call 23; refine pause ?_)
              unfold Paused
              refine CF.mono ?_
              rintro e w12 ⟨rfl, hb12⟩
              have HB12 := Lib.hid (below_then (below_then HRD.out.bel (below_next HBT.out HB11.out)) hb12)
              clear hb12 CF cv
              go_wp2
              go_ret3
              exact HE.out _ _ (by rfl) HB12.out
            | none =>
              rw [hix] at CF
              have HST : Hid (Pk.step (out.map Pk.It.item) (kn.map Pk.It.item) (kd :: zs) = .ok ((t, 0), rs2)) := Lib.hid (by rw [step_adm HTO.out]; simp only; rw [HAD.out, hix]; rfl)
              simp only [Pk.at_] at CF
              clear hix
              go_wp2_with (go_at_call 23; refine pause ?_)
              unfold Paused
              refine CF.mono ?_
              rintro e w12 ⟨rfl, hb12⟩
              have HB12 := Lib.hid (below_then HB11.out hb12)
              clear hb12 CF cv HB11
              go_wp2_with (with_reducible (show wpList _ _ _ (Oper.mk _ (Op.call (Call.mk (Callee.builtin Builtin.append) _ _)) _ _ _ _ :: _) _ _); refine pause ?_)
              unfold Paused
              change wpList _ _ _ _ _ (w12.alloc (.cells #[.slice At nt ct] 22))
              have hb13 : Below wt.heap.size wt (w12.alloc (.cells #[.slice At nt ct] 22)) := below_then HB12.out ((Below.refl _ _).alloc (Nat.le_refl _) _)
              have HX13 := Lib.hid (Blk.new w12 22 #[.slice At nt ct])
              have HB13 := Lib.hid hb13
              have HR13 := Lib.hid (HRD.out.below (below_next HBT.out hb13))
              have HTR := Lib.hid (HTT.out.below hb13 (Nat.le_refl _))
              clear hb13 HB12
              generalize w12.alloc (.cells #[.slice At nt ct] 22) = w13 at HX13 HB13 HR13 HTR ⊢
              generalize w12.heap.size = g13 at HX13 ⊢
              obtain ⟨ei, hei, hez, hes, heb⟩ := info_parts elL_info
              refine wpList_append_lies w13 (by rfl) (.tmp 150) (.tmp 152) 23 (by rfl) w.heap.size 22 ei _ 1 24 Tryz.underlying23 hei hez hes heb (by rfl) (by decide) (.slice Av k cv1) k (out.map (·.val)) (by rfl) HR13.out.own ⟨g13, 0, none⟩ 1 1 [.slice At nt ct] (by rfl) (by rfl) (fun j u hj => by rw [Addr.add_mid, Nat.zero_add, HX13.out.cell j]; simpa using hj) (by intro u hu; rw [List.mem_singleton.1 hu]; rfl) (by decide) (by unfold maxLen; have := HKM.out; omega) (by have := HKM.out; omega) HR13.out.bel.size w13.heap.size rfl ?_
              intro g14 c14 w14 ho14 hg14 hl14 _
              have HO14 := Lib.hid ho14
              have HG14 := Lib.hid hg14
              have HL14 := Lib.hid hl14
              clear ho14 hg14 hl14 hei hez hes heb
              simp only [Act.put]
              go_wp2_with (with_reducible (show wpList _ _ _ (Oper.mk _ (Op.call (Call.mk (Callee.builtin Builtin.append) _ _)) _ _ _ _ :: _) _ _); refine pause ?_)
              unfold Paused
              change wpList _ _ _ _ _ (w14.alloc (.cells #[.int .i64 ((0 : Nat) : Int)] 3))
              have HX15 := Lib.hid (Blk.new w14 3 #[.int .i64 ((0 : Nat) : Int)])
              have HB15 : Hid (Below w14.heap.size w14 (w14.alloc (.cells #[.int .i64 ((0 : Nat) : Int)] 3))) := Lib.hid ((Below.refl _ _).alloc (Nat.le_refl _) _)
              have HD15 : Hid ((w14.alloc (.cells #[.int .i64 ((0 : Nat) : Int)] 3)).ownsRow w.heap.size 3 1 (.slice Ad k cd1) k (out.map depV)) := Lib.hid (rd8_dep HR13.out HG14.out ((Below.refl _ _).alloc (Nat.le_refl _) _))
              have HZ15 : Hid (w.heap.size ≤ (w14.alloc (.cells #[.int .i64 ((0 : Nat) : Int)] 3)).heap.size) := Lib.hid (Nat.le_trans HR13.out.bel.size (Nat.le_trans HG14.out.size HB15.out.size))
              generalize w14.alloc (.cells #[.int .i64 ((0 : Nat) : Int)] 3) = w15 at HX15 HB15 HD15 HZ15 ⊢
              generalize w14.heap.size = g15 at HX15 ⊢
              obtain ⟨ej, hej, hejz, hejs, hejb⟩ := info_parts eli_info
              refine wpList_append_lies w15 (by rfl) (.tmp 154) (.tmp 156) 31 (by rfl) w.heap.size 3 ej _ 1 8 Tryz.underlying31 hej hejz hejs hejb (by rfl) (by decide) (.slice Ad k cd1) k (out.map depV) (by rfl) HD15.out ⟨g15, 0, none⟩ 1 1 [.int .i64 ((0 : Nat) : Int)] (by rfl) (by rfl) (fun j u hj => by rw [Addr.add_mid, Nat.zero_add, HX15.out.cell j]; simpa using hj) (by intro u hu; rw [List.mem_singleton.1 hu]; rfl) (by decide) (by unfold maxLen; have := HKM.out; omega) (by have := HKM.out; omega) HZ15.out w15.heap.size rfl ?_
              intro g16 c16 w16 ho16 hg16 hl16 _
              have HN16 : Hid (RD8 w w16 (.slice A6 rs2.length c6) (.slice (some ⟨g14, 0, none⟩) (k + 1) c14) (.slice (some ⟨g16, 0, none⟩) (k + 1) c16) kn m ys (k + 1) (out ++ [⟨t, 0, .slice At nt ct⟩]) rs2) := Lib.hid (HRD.out.step HLT.out HKB.out (p := ⟨t, 0, .slice At nt ct⟩) (q := ((t, 0), rs2)) HST.out rfl HRS.out (below_next HBT.out HB13.out) HTR.out HNW.out HO14.out HG14.out (HL14.out.elim (fun e => Or.inl e.symm) (fun e => Or.inr (by rw [e]; rfl))) HB15.out ho16 hg16 (hl16.elim (fun e => Or.inl e.symm) (fun e => Or.inr (by rw [e]; rfl))))
              clear ho16 hg16 hl16 hej hejz hejs hejb
              generalize rs2.length = n6 at HN16 ⊢
              simp only [Act.put]
              go_wp2
              go_roundw
              case rel => exact ⟨k + 1, by have := HLT.out; omega, by go_num, _, _, HN16⟩
              case measure => have := HLT.out; simp [intOf]; omega
      obtain rfl : kd = 1 := by omega
      have HKD : Hid ((1 : Nat) = 1) := Lib.hid rfl
      go_wp2_with (go_at_call 22; refine pause ?_)
      unfold Paused
      refine CB.mono ?_
      rintro e w5 ⟨hb5, b5, c5, A5, c5', rfl, q5, hr5⟩
      have p5 : w5.cell? ⟨b5, 0, none⟩ = some (.int .i64 1) := q5
      have HB5 := Lib.hid hb5
      obtain ⟨nz, hnz⟩ : ∃ n, n = zs.length := ⟨_, rfl⟩
      rw [← hnz] at hr5 ⊢
      have CT := rest_ot zs A5 nz c5' w w5 (below_then HRD.out.bel hb5) hr5 HZB.out (by have := HZL.out; omega)
      unfold RestOT at CT
      clear hb5 CB hr5 q5 hnz k0 k7
      cases hot : Pk.ot zs with
      | none =>
        rw [hot] at CT
        simp only at CT
        have HE := Lib.hid (HBAD.out 2 (step_bad (by rw [told_1, hot])))
        clear hot
        go_wp2_with (go_at_call 22; refine pause ?_)
        unfold Paused
        refine CT.mono ?_
        rintro e w6 ⟨hb6, rfl⟩
        have HB6 := Lib.hid (below_then (below_then HRD.out.bel HB5.out) hb6)
        clear hb6 CT
        go_wp2
        go_ret3
        exact HE.out _ _ (by rfl) HB6.out
      | some q =>
        obtain ⟨idb, dl, rs2⟩ := q
        rw [hot] at CT
        simp only at CT
        have HOT := Lib.hid hot
        have HOB := Lib.hid (ot_byte HZB.out hot)
        clear hot
        go_wp2_with (go_at_call 22; refine pause ?_)
        unfold Paused
        refine CT.mono ?_
        rintro e w6 ⟨hb6, b6, c6', A6, c6, A3, c3, A4, c4, rfl, p61, hrid, p63, hrdl, hrs⟩
        have HRS := Lib.hid hrs
        have HRDL := Lib.hid hrdl
        have HRID := Lib.hid hrid
        have HDB : Hid (Sha.Byte dl) := Lib.hid HOB.out.2.1
        obtain ⟨n3, hn3⟩ : ∃ n, n = dl.length := ⟨_, rfl⟩
        rw [← hn3] at HRDL p63
        have HN3 : Hid (n3 ≤ 2000) := Lib.hid (by rw [hn3]; have h1 := HOB.out.2.2; have h2 := HZL.out; omega)
        have HW6 : Hid (Below wr.heap.size wr (w6.alloc (.cells #[] 5))) := Lib.hid (below_then (below_then HB5.out hb6) ((Below.refl _ _).alloc (Nat.le_refl _) _))
        have b67 : Below w6.heap.size w6 (w6.alloc (.cells #[] 5)) := (Below.refl _ _).alloc (Nat.le_refl _) _
        have p1 : (w6.alloc (.cells #[] 5)).cell? ⟨b6, 1, none⟩ = some (.slice A4 32 c4) := (b67.cell (block_lt_of_cell p61)).trans p61
        have p3 : (w6.alloc (.cells #[] 5)).cell? ⟨b6, 3, none⟩ = some (.slice A3 n3 c3) := (b67.cell (block_lt_of_cell p63)).trans p63
        obtain ⟨T4, hT4⟩ : ∃ T, T = textOf idb := ⟨_, rfl⟩
        have HT4 := Lib.hid hT4
        have HCV : Hid (∀ wx, Below wr.heap.size wr wx → (convert 22 9 (.slice A4 32 c4)).run Tryz.prog wx = .ok (.string T4) wx) := Lib.hid (fun wx h => by rw [hT4]; exact conv_rd (hrid.below (below_then HRD.out.bel h) (Nat.le_refl _)))
        have cv := HCV.out _ HW6.out
        have CF := pfind_any Av k cv1 out idb T4 (w6.alloc (.cells #[] 5)) hT4 HOB.out.1 (HTX.out _ HW6.out) (by have := HKM.out; omega) HOL.out
        unfold RFindPost at CF
        clear hb6 CT hrid hrdl hrs p63 hn3 b67 hT4 p5
        cases hi1 : Pk.idx out idb out.length with
        | some i =>
          rw [hi1] at CF
          simp only [Pk.at_] at CF
          have hil := (Pk.idx_all out idb).2 i hi1
          obtain ⟨p, hp⟩ : ∃ p, out[i]? = some p := ⟨out[i], List.getElem?_eq_getElem hil⟩
          have HBS : Hid (Pk.bse out kn idb = some p) := Lib.hid (by unfold Pk.bse; rw [(Pk.idx_all out idb).1, hi1, Option.bind_some, hp])
          have hpm := List.mem_of_getElem? hp
          have hpd : p.depth ≤ 5 := (HRD.out.gd p.item (List.mem_map_of_mem hpm)).2.2
          have hpl : p.text.length ≤ 300 := (HRD.out.gd p.item (List.mem_map_of_mem hpm)).1
          go_wp2_with (go_at_call 23; refine pause ?_)
          unfold Paused
          refine CF.mono ?_
          rintro e w7 ⟨rfl, hb7⟩
          have HW7 := Lib.hid (below_then HW6.out hb7)
          have HB7 := Lib.hid (below_then HRD.out.bel HW7.out)
          have h7 := HRD.out.below HW7.out
          obtain ⟨Ap, cp, hpv, _⟩ := (h7.txt p hpm).1
          obtain ⟨tb, htb⟩ : ∃ t, p.text = t := ⟨_, rfl⟩
          obtain ⟨dp, hdp⟩ : ∃ d, p.depth = d := ⟨_, rfl⟩
          obtain ⟨np, hnp⟩ : ∃ n, n = tb.length := ⟨_, rfl⟩
          have HRP : Hid (Rd w7 (.slice Ap np cp) tb) := Lib.hid (by have h := (h7.txt p hpm).1; rw [hpv, htb, ← hnp] at h; exact h)
          have HPB : Hid (Sha.Byte tb) := Lib.hid (by have h := (h7.txt p hpm).2; rw [htb] at h; exact h)
          have HNP : Hid (np ≤ 400) := Lib.hid (by rw [hnp, ← htb]; omega)
          have HTBE := Lib.hid htb
          have HDP := Lib.hid hdp
          obtain ⟨A', c', hv', _, hx'⟩ := h7.txts.row
          injection hv' with e1 e2 e3
          subst e1
          rw [List.length_map] at hx'
          obtain ⟨bo, oo, rfl, _, hxo⟩ := hx' (by omega)
          have pa : w7.cell? ⟨bo, oo + i, none⟩ = some (.slice Ap np cp) := by rw [hnp, ← htb, ← hpv]; exact hxo i _ (by rw [List.getElem?_map, hp]; rfl)
          have hdr : RdL w7 (.slice Ad k cd1) (out.map depV) := rdl_own h7.dep (by rw [List.length_map, h7.len])
          obtain ⟨A'', c'', hv'', _, hx''⟩ := hdr
          injection hv'' with f1 f2 f3
          subst f1
          rw [List.length_map] at hx''
          obtain ⟨bd, od, rfl, _, hxd⟩ := hx'' (by omega)
          have pb : w7.cell? ⟨bd, od + i, none⟩ = some (.int .i64 (dp : Int)) := by rw [← hdp]; exact hxd i _ (by rw [List.getElem?_map, hp]; rfl)
          have p3' : w7.cell? ⟨b6, 3, none⟩ = some (.slice A3 n3 c3) := (hb7.cell (block_lt_of_cell p3)).trans p3
          have j1 : (0 : Int) ≤ (i : Int) := by omega
          have j2 : (i : Int) < (k : Int) := by have := HKM.out.2; omega
          have j3 : (dp : Int) ≤ 5 := by omega
          have j4 : (0 : Int) ≤ (dp : Int) := by omega
          clear hb7 h7 CF hi1 hp hpm hpd hpl hpv htb hdp hnp hx' hxo hx'' hxd cv p1 p3 hil e2 e3 f2 f3
          have HTB1 := Lib.hid (told_bse HOT.out HBS.out)
          by_cases hd5 : 5 ≤ dp
          · have HE := Lib.hid (HBAD.out 8 (step_bad (by rw [HTB1.out, HDP.out, if_pos hd5])))
            have gd : (5 : Int) < (dp : Int) + 1 := by omega
            go_wp2
            go_quiet (fail)
            go_wp2
            go_ret3
            exact HE.out _ _ (by rfl) (below_drewN HB7.out _)
          have gd : ¬ (5 : Int) < (dp : Int) + 1 := by omega
          have gd2 : (0 : Int) ≤ (dp : Int) := by omega
          have gd3 : (dp : Int) < 5 := by omega
          have HD5 := Lib.hid hd5
          have CA := fun q => rapply_all Ap A3 np cp n3 c3 tb dl (w7.drewN q) (HRP.out.below (below_drewN (Below.refl _ w7) q) (Nat.le_refl _)) (HRDL.out.below (below_drewN HB7.out q) (Nat.le_refl _)) HDB.out HPB.out (by have := HN3.out; omega) HNP.out
          unfold RApplyPost at CA
          cases hap : Dl.applyP tb dl with
          | err e1 =>
            rw [hap] at CA
            simp only at CA
            have HE := Lib.hid (HBAD.out (e1 + 1) (step_bad (by rw [HTB1.out, HDP.out, if_neg hd5, HTBE.out, hap])))
            have gne : (((e1 + 1 : Nat) : Int) != 0) = true := by simp; omega
            generalize e1 + 1 = e2 at CA HE gne
            clear hap hd5
            have HCA := Lib.hid CA
            clear CA
            go_wp2
            go_quiet (fail)
            go_wp2_with (go_at_call 24; refine pause ?_)
            unfold Paused
            refine (HCA.out _).mono ?_
            rintro e w9 ⟨rfl, hb9⟩
            have HB9 := Lib.hid (below_then (below_drewN HB7.out _) hb9)
            clear hb9 HCA
            go_wp2
            go_ret3
            exact HE.out _ _ (by rfl) HB9.out
          | ok t =>
            rw [hap] at CA
            simp only at CA
            have HTO : Hid (Pk.told (out.map Pk.It.item) (kn.map Pk.It.item) (1 :: zs) = .ok ((t, dp + 1), rs2)) := Lib.hid (by rw [HTB1.out, HDP.out, if_neg hd5, HTBE.out, hap])
            have HTB := Lib.hid (applyP_byte HPB.out HDB.out hap).1
            clear hap hd5
            have HCA := Lib.hid CA
            clear CA
            go_wp2
            go_quiet (fail)
            go_wp2_with (go_at_call 24; refine pause ?_)
            unfold Paused
            refine (HCA.out _).mono ?_
            rintro e wt ⟨v0, rfl, hpad⟩
            obtain ⟨At, ct, rfl⟩ := hpad.len
            have HTT : Hid (Rd wt (.slice At t.length ct) t) := Lib.hid hpad.rd
            have HNW : Hid (Rd w (.slice At t.length ct) t ∨ ∃ A n c, (Value.slice At t.length ct) = .slice A n c ∧ NewAt wr.heap.size A n) := Lib.hid (Or.inr ⟨At, _, ct, rfl, (newAt_own hpad.own).mono HW7.out.size⟩)
            have HBT := Lib.hid (below_next (below_drewN HW7.out _) hpad.bel)
            clear hpad HCA HBS HTB1 HRP HPB HTBE
            obtain ⟨d, hdd, hd2⟩ : ∃ d : Nat, (dp : Int) + 1 = (d : Int) ∧ dp + 1 = d := ⟨dp + 1, by omega, rfl⟩
            rw [hdd]
            rw [hd2] at HTO
            clear hdd hd2
            obtain ⟨nt, hnt⟩ : ∃ n, n = t.length := ⟨_, rfl⟩
            have HNT := Lib.hid hnt
            rw [← hnt] at HTT HNW ⊢
            by_cases hlg : 300 < nt
            · have CP := rparse_large At nt ct wt hlg
              have HAD : Hid (Pk.adm (out.map Pk.It.item) t = 13) := Lib.hid (by unfold Pk.adm; rw [if_pos (by omega)])
              have HE := Lib.hid (HBAD.out 13 (by rw [step_adm HTO.out]; simp only; rw [HAD.out, if_neg (by decide)]))
              clear hnt
              go_wp2_with (go_at_call 25; refine pause ?_)
              unfold Paused
              refine CP.mono ?_
              rintro e w8 ⟨rfl, hb8⟩
              have HB8 := Lib.hid (below_then (below_then HRD.out.bel HBT.out) hb8)
              clear hb8 CP hlg
              go_wp2_with (with_reducible (show wpList _ _ _ (Oper.mk _ (Op.store 65 _ _) _ _ _ _ :: _) _ _); refine pause ?_)
              unfold Paused
              change wpList _ _ _ _ _ (w8.alloc (.cells zc0 65))
              refine wpList_store_row (by rfl) 65 (.tmp 26) (.tmp 138) (by rfl) w8.heap.size zc0 (by rfl) (by rfl) 65 zc0 (Blk.new w8 _ _) (by kernel_rfl) (by rfl) (by kernel_rfl) ?_
              have b9 : Below w8.heap.size w8 ((w8.alloc (.cells zc0 65)).setRow w8.heap.size zc0) := below_row ((Below.refl _ _).alloc (Nat.le_refl _) _) (Nat.le_refl _) _
              have HB9 := Lib.hid (below_then HB8.out b9)
              clear b9
              generalize (w8.alloc (.cells zc0 65)).setRow w8.heap.size zc0 = w9 at HB9 ⊢
              generalize w8.heap.size = g9
              simp only [Act.put]
              go_wp2
              go_ret3
              exact HE.out _ _ (by rfl) HB9.out
            have hz300 : t.length ≤ 300 := by omega
            have HZ := Lib.hid hz300
            have CP := rparse_any t At ct wt (by rw [← hnt]; exact HTT.out) (oc_bytes HTB.out) hz300
            rw [← hnt] at CP
            unfold RPost at CP
            cases hpt : Ob.parse t with
            | bad c =>
              have hc0 := Pk.parse_bad_pos hpt
              have HAD : Hid (Pk.adm (out.map Pk.It.item) t = c) := Lib.hid (by unfold Pk.adm; rw [if_neg (by omega), hpt])
              have HE := Lib.hid (HBAD.out c (by rw [step_adm HTO.out]; simp only; rw [HAD.out, if_neg (by omega)]))
              have gc : ((c : Int) != 0) = true := by simp; omega
              have HPT := Lib.hid hpt
              clear hnt hz300 hlg hc0 hpt
              go_wp2_with (go_at_call 25; refine pause ?_)
              unfold Paused
              refine CP.mono ?_
              rintro e w8 ⟨hb8, h2, _⟩
              obtain rfl := h2 c HPT.out
              have HB8 := Lib.hid (below_then (below_then HRD.out.bel HBT.out) hb8)
              clear hb8 h2 CP
              go_wp2_with (with_reducible (show wpList _ _ _ (Oper.mk _ (Op.store 65 _ _) _ _ _ _ :: _) _ _); refine pause ?_)
              unfold Paused
              change wpList _ _ _ _ _ (w8.alloc (.cells zc0 65))
              refine wpList_store_row (by rfl) 65 (.tmp 26) (.tmp 138) (by rfl) w8.heap.size zc0 (by rfl) (by rfl) 65 zc0 (Blk.new w8 _ _) (by kernel_rfl) (by rfl) (by kernel_rfl) ?_
              have b9 : Below w8.heap.size w8 ((w8.alloc (.cells zc0 65)).setRow w8.heap.size zc0) := below_row ((Below.refl _ _).alloc (Nat.le_refl _) _) (Nat.le_refl _) _
              have HB9 := Lib.hid (below_then HB8.out b9)
              clear b9
              generalize (w8.alloc (.cells zc0 65)).setRow w8.heap.size zc0 = w9 at HB9 ⊢
              generalize w8.heap.size = g9
              simp only [Act.put]
              go_wp2
              go_ret3
              exact HE.out _ _ (by rfl) HB9.out
            | ok o =>
              have HAD : Hid (Pk.adm (out.map Pk.It.item) t = if (Pk.idx out (Sha.sum t) out.length).isSome then 20 else 0) := Lib.hid (by unfold Pk.adm; rw [if_neg (by omega), hpt, fnd_isSome])
              have HPT := Lib.hid hpt
              clear hnt hz300 hlg hpt
              go_wp2_with (go_at_call 25; refine pause ?_)
              unfold Paused
              refine CP.mono ?_
              rintro e w8 ⟨hb8, _, h3⟩
              obtain ⟨cs, T1, tc, E1, ec, P1, pc, rfl, hfit, _, hob⟩ := h3 o HPT.out
              have HC36 := Lib.hid (hob.size hfit)
              have HC1 : Hid (cs.all (·.oneCell') = true) := Lib.hid (by rw [hob.cells]; exact cellsOb_one _ _ _ _ _ _ _ _ _ _ _)
              have HB8 := Lib.hid hb8
              clear hb8 h3 CP hfit hob HPT
              go_wp2_with (with_reducible (show wpList _ _ _ (Oper.mk _ (Op.store 65 _ _) _ _ _ _ :: _) _ _); refine pause ?_)
              unfold Paused
              change wpList _ _ _ _ _ (w8.alloc (.cells zc0 65))
              refine wpList_store_row (by rfl) 65 (.tmp 26) (.tmp 138) (by rfl) w8.heap.size cs (by rfl) (by rfl) 65 zc0 (Blk.new w8 _ _) (by rw [HC36.out]; kernel_rfl) (by rw [HC36.out]; rfl) HC1.out ?_
              have b9 : Below w8.heap.size w8 ((w8.alloc (.cells zc0 65)).setRow w8.heap.size cs) := below_row ((Below.refl _ _).alloc (Nat.le_refl _) _) (Nat.le_refl _) _
              have HB9 := Lib.hid (below_then HB8.out b9)
              clear b9
              generalize (w8.alloc (.cells zc0 65)).setRow w8.heap.size cs = w9 at HB9 ⊢
              generalize w8.heap.size = g9
              simp only [Act.put]
              clear HC36 HC1 HB8
              have CID := rid_any (.slice At nt ct) t w9 (HTT.out.below HB9.out (Nat.le_refl _)) HTB.out (by have := HZ.out; omega)
              go_wp2_with (go_at_call 26; refine pause ?_)
              unfold Paused
              refine CID.mono ?_
              rintro e w10 ⟨rfl, hb10⟩
              have HB10 := Lib.hid (below_then HB9.out hb10)
              have HS := Lib.hid (sum_id t)
              clear hb10 CID HB9
              obtain ⟨su, hsu⟩ : ∃ su, su = Sha.sum t := ⟨_, rfl⟩
              rw [← hsu] at HS HAD ⊢
              have HSU := Lib.hid hsu
              clear hsu
              go_wp2_with (with_reducible (show wpList _ _ _ (Oper.mk _ (Op.store 48 _ _) _ _ _ _ :: _) _ _); refine pause ?_)
              unfold Paused
              change wpList _ _ _ _ _ (w10.alloc (.cells (u8s (List.replicate 32 0)) 48))
              refine wpList_store_row (by rfl) 48 (.tmp 28) (.tmp 144) (by rfl) w10.heap.size (u8s su) (by rfl) (by rfl) 48 (u8s (List.replicate 32 0)) (Blk.new w10 _ _) (by rw [u8s_size, HS.out.1]; exact id_size) (by rw [u8s_size, u8s_size, HS.out.1]; rfl) (u8s_one _) ?_
              have b11 : Below w10.heap.size w10 ((w10.alloc (.cells (u8s (List.replicate 32 0)) 48)).setRow w10.heap.size (u8s su)) := below_row ((Below.refl _ _).alloc (Nat.le_refl _) _) (Nat.le_refl _) _
              have HB11 := Lib.hid (below_then HB10.out b11)
              have hblk : Blk ((w10.alloc (.cells (u8s (List.replicate 32 0)) 48)).setRow w10.heap.size (u8s su)) w10.heap.size 48 (u8s su) := (Blk.new w10 _ _).row _
              have hr11 := rd_blk hblk (by rw [HS.out.1]; decide)
              rw [HS.out.1] at hr11
              have cv := conv_rd hr11
              obtain ⟨T11, hT11⟩ : ∃ T, T = textOf su := ⟨_, rfl⟩
              rw [← hT11] at cv
              have HT11 := Lib.hid hT11
              clear b11 HB10 hblk hr11 hT11
              generalize (w10.alloc (.cells (u8s (List.replicate 32 0)) 48)).setRow w10.heap.size (u8s su) = w11 at HB11 cv ⊢
              generalize w10.heap.size = g11 at cv ⊢
              simp only [Act.put]
              have CF := pfind_any _ k cv1 out su T11 w11 HT11.out HS.out.2 (HTX.out w11 (below_next HBT.out HB11.out)) (by have := HKM.out; omega) HOL.out
              unfold RFindPost at CF
              cases hix : Pk.idx out su out.length with
              | some i =>
                rw [hix] at CF
                have HE := Lib.hid (HBAD.out 20 (by rw [step_adm HTO.out]; simp only; rw [HAD.out, hix]; rfl))
                have gi : (0 : Int) ≤ (i : Int) := by omega
                simp only [Pk.at_] at CF
                clear hix
                go_wp2_with (go_at_call 23; refine pause ?_)
                unfold Paused
                refine CF.mono ?_
                rintro e w12 ⟨rfl, hb12⟩
                have HB12 := Lib.hid (below_then (below_then HRD.out.bel (below_next HBT.out HB11.out)) hb12)
                clear hb12 CF cv
                go_wp2
                go_ret3
                exact HE.out _ _ (by rfl) HB12.out
              | none =>
                rw [hix] at CF
                have HST : Hid (Pk.step (out.map Pk.It.item) (kn.map Pk.It.item) (1 :: zs) = .ok ((t, d), rs2)) := Lib.hid (by rw [step_adm HTO.out]; simp only; rw [HAD.out, hix]; rfl)
                simp only [Pk.at_] at CF
                clear hix
                go_wp2_with (go_at_call 23; refine pause ?_)
                unfold Paused
                refine CF.mono ?_
                rintro e w12 ⟨rfl, hb12⟩
                have HB12 := Lib.hid (below_then HB11.out hb12)
                clear hb12 CF cv HB11
                go_wp2_with (with_reducible (show wpList _ _ _ (Oper.mk _ (Op.call (Call.mk (Callee.builtin Builtin.append) _ _)) _ _ _ _ :: _) _ _); refine pause ?_)
                unfold Paused
                change wpList _ _ _ _ _ (w12.alloc (.cells #[.slice At nt ct] 22))
                have hb13 : Below wt.heap.size wt (w12.alloc (.cells #[.slice At nt ct] 22)) := below_then HB12.out ((Below.refl _ _).alloc (Nat.le_refl _) _)
                have HX13 := Lib.hid (Blk.new w12 22 #[.slice At nt ct])
                have HB13 := Lib.hid hb13
                have HR13 := Lib.hid (HRD.out.below (below_next HBT.out hb13))
                have HTR := Lib.hid (HTT.out.below hb13 (Nat.le_refl _))
                clear hb13 HB12
                generalize w12.alloc (.cells #[.slice At nt ct] 22) = w13 at HX13 HB13 HR13 HTR ⊢
                generalize w12.heap.size = g13 at HX13 ⊢
                obtain ⟨ei, hei, hez, hes, heb⟩ := info_parts elL_info
                refine wpList_append_lies w13 (by rfl) (.tmp 150) (.tmp 152) 23 (by rfl) w.heap.size 22 ei _ 1 24 Tryz.underlying23 hei hez hes heb (by rfl) (by decide) (.slice (some ⟨bo, oo, none⟩) k cv1) k (out.map (·.val)) (by rfl) HR13.out.own ⟨g13, 0, none⟩ 1 1 [.slice At nt ct] (by rfl) (by rfl) (fun j u hj => by rw [Addr.add_mid, Nat.zero_add, HX13.out.cell j]; simpa using hj) (by intro u hu; rw [List.mem_singleton.1 hu]; rfl) (by decide) (by unfold maxLen; have := HKM.out; omega) (by have := HKM.out; omega) HR13.out.bel.size w13.heap.size rfl ?_
                intro g14 c14 w14 ho14 hg14 hl14 _
                have HO14 := Lib.hid ho14
                have HG14 := Lib.hid hg14
                have HL14 := Lib.hid hl14
                clear ho14 hg14 hl14 hei hez hes heb
                simp only [Act.put]
                go_wp2_with (with_reducible (show wpList _ _ _ (Oper.mk _ (Op.call (Call.mk (Callee.builtin Builtin.append) _ _)) _ _ _ _ :: _) _ _); refine pause ?_)
                unfold Paused
                change wpList _ _ _ _ _ (w14.alloc (.cells #[.int .i64 (d : Int)] 3))
                have HX15 := Lib.hid (Blk.new w14 3 #[.int .i64 (d : Int)])
                have HB15 : Hid (Below w14.heap.size w14 (w14.alloc (.cells #[.int .i64 (d : Int)] 3))) := Lib.hid ((Below.refl _ _).alloc (Nat.le_refl _) _)
                have HD15 : Hid ((w14.alloc (.cells #[.int .i64 (d : Int)] 3)).ownsRow w.heap.size 3 1 (.slice (some ⟨bd, od, none⟩) k cd1) k (out.map depV)) := Lib.hid (rd8_dep HR13.out HG14.out ((Below.refl _ _).alloc (Nat.le_refl _) _))
                have HZ15 : Hid (w.heap.size ≤ (w14.alloc (.cells #[.int .i64 (d : Int)] 3)).heap.size) := Lib.hid (Nat.le_trans HR13.out.bel.size (Nat.le_trans HG14.out.size HB15.out.size))
                generalize w14.alloc (.cells #[.int .i64 (d : Int)] 3) = w15 at HX15 HB15 HD15 HZ15 ⊢
                generalize w14.heap.size = g15 at HX15 ⊢
                obtain ⟨ej, hej, hejz, hejs, hejb⟩ := info_parts eli_info
                refine wpList_append_lies w15 (by rfl) (.tmp 154) (.tmp 156) 31 (by rfl) w.heap.size 3 ej _ 1 8 Tryz.underlying31 hej hejz hejs hejb (by rfl) (by decide) (.slice (some ⟨bd, od, none⟩) k cd1) k (out.map depV) (by rfl) HD15.out ⟨g15, 0, none⟩ 1 1 [.int .i64 (d : Int)] (by rfl) (by rfl) (fun j u hj => by rw [Addr.add_mid, Nat.zero_add, HX15.out.cell j]; simpa using hj) (by intro u hu; rw [List.mem_singleton.1 hu]; rfl) (by decide) (by unfold maxLen; have := HKM.out; omega) (by have := HKM.out; omega) HZ15.out w15.heap.size rfl ?_
                intro g16 c16 w16 ho16 hg16 hl16 _
                have HN16 : Hid (RD8 w w16 (.slice A6 rs2.length c6) (.slice (some ⟨g14, 0, none⟩) (k + 1) c14) (.slice (some ⟨g16, 0, none⟩) (k + 1) c16) kn m ys (k + 1) (out ++ [⟨t, d, .slice At nt ct⟩]) rs2) := Lib.hid (HRD.out.step HLT.out HKB.out (p := ⟨t, d, .slice At nt ct⟩) (q := ((t, d), rs2)) HST.out rfl HRS.out (below_next HBT.out HB13.out) HTR.out HNW.out HO14.out HG14.out (HL14.out.elim (fun e => Or.inl e.symm) (fun e => Or.inr (by rw [e]; rfl))) HB15.out ho16 hg16 (hl16.elim (fun e => Or.inl e.symm) (fun e => Or.inr (by rw [e]; rfl))))
                clear ho16 hg16 hl16 hej hejz hejs hejb
                generalize rs2.length = n6 at HN16 ⊢
                simp only [Act.put]
                go_wp2
                go_roundw
                case rel => exact ⟨k + 1, by have := HLT.out; omega, by go_num, _, _, HN16⟩
                case measure => have := HLT.out; simp [intOf]; omega
        | none =>
          rw [hi1] at CF
          simp only [Pk.at_] at CF
          have HF1 : Hid (Pk.fnd out idb = none) := Lib.hid (by rw [(Pk.idx_all out idb).1, hi1]; rfl)
          clear hi1
          go_wp2_with (go_at_call 23; refine pause ?_)
          unfold Paused
          refine CF.mono ?_
          rintro e w7 ⟨rfl, hb7⟩
          have HW7 := Lib.hid (below_then HW6.out hb7)
          have p1' : w7.cell? ⟨b6, 1, none⟩ = some (.slice A4 32 c4) := (hb7.cell (block_lt_of_cell p1)).trans p1
          have p3' : w7.cell? ⟨b6, 3, none⟩ = some (.slice A3 n3 c3) := (hb7.cell (block_lt_of_cell p3)).trans p3
          have cv7 := HCV.out _ HW7.out
          have CF2 := pfind_any A n c kn idb T4 w7 HT4.out HOB.out.1 (HKT.out.below (below_then HRD.out.bel HW7.out)) (by have := HKN.out; omega) (fun p hp => by have := HKL.out p hp; omega)
          unfold RFindPost at CF2
          clear hb7 CF cv p1 p3
          cases hi2 : Pk.idx kn idb kn.length with
          | none =>
            rw [hi2] at CF2
            simp only [Pk.at_] at CF2
            have HE := Lib.hid (HBAD.out 9 (step_bad (told_no HOT.out (by unfold Pk.bse; rw [HF1.out]; simp only; rw [(Pk.idx_all kn idb).1, hi2]; rfl))))
            clear hi2
            go_wp2_with (go_at_call 23; refine pause ?_)
            unfold Paused
            refine CF2.mono ?_
            rintro e w8 ⟨rfl, hb8⟩
            have HB8 := Lib.hid (below_then (below_then HRD.out.bel HW7.out) hb8)
            clear hb8 CF2
            go_wp2
            go_ret3
            exact HE.out _ _ (by rfl) HB8.out
          | some i =>
            rw [hi2] at CF2
            simp only [Pk.at_] at CF2
            have hil := (Pk.idx_all kn idb).2 i hi2
            obtain ⟨p, hp⟩ : ∃ p, kn[i]? = some p := ⟨kn[i], List.getElem?_eq_getElem hil⟩
            have HBS : Hid (Pk.bse out kn idb = some p) := Lib.hid (by unfold Pk.bse; rw [HF1.out]; simp only; rw [(Pk.idx_all kn idb).1, hi2, Option.bind_some, hp])
            have hpm := List.mem_of_getElem? hp
            go_wp2_with (go_at_call 23; refine pause ?_)
            unfold Paused
            refine CF2.mono ?_
            rintro e w8 ⟨rfl, hb8⟩
            have HW8 := Lib.hid (below_then HW7.out hb8)
            have p3'' : w8.cell? ⟨b6, 3, none⟩ = some (.slice A3 n3 c3) := (hb8.cell (block_lt_of_cell p3')).trans p3'
            have hb0 := below_then HRD.out.bel HW8.out
            clear hb8 CF2 HW7 p3' p1' cv7
            obtain ⟨w7, hw7⟩ : ∃ w7, w7 = w8 := ⟨_, rfl⟩
            have HW7 : Hid (Below wr.heap.size wr w7) := Lib.hid (hw7 ▸ HW8.out)
            rw [← hw7] at p3'' hb0 ⊢
            clear hw7 HW8
            have HB7 := Lib.hid hb0
            have h7 := HKT.out.below hb0
            obtain ⟨Ap, cp, hpv, _⟩ := (h7.rd p hpm).1
            obtain ⟨tb, htb⟩ : ∃ t, p.text = t := ⟨_, rfl⟩
            obtain ⟨np, hnp⟩ : ∃ n, n = tb.length := ⟨_, rfl⟩
            have HRP : Hid (Rd w7 (.slice Ap np cp) tb) := Lib.hid (by have h := (h7.rd p hpm).1; rw [hpv, htb, ← hnp] at h; exact h)
            have HPB : Hid (Sha.Byte tb) := Lib.hid (by have h := (h7.rd p hpm).2; rw [htb] at h; exact h)
            have HNP : Hid (np ≤ 400) := Lib.hid (by rw [hnp, ← htb]; exact HKL.out p hpm)
            have HTBE := Lib.hid htb
            have HDP : Hid (p.depth = 0) := Lib.hid (HKD0.out p hpm)
            have hnk : n = kn.length := by
              obtain ⟨A', c', hv, _⟩ := HKT.out.row
              injection hv with e1 e2 e3
              rw [e2, List.length_map]
            obtain ⟨A', c', hv', _, hx'⟩ := h7.row
            injection hv' with e1 e2 e3
            subst e1
            rw [List.length_map] at hx'
            obtain ⟨bo, oo, rfl, _, hxo⟩ := hx' (by omega)
            have pa : w7.cell? ⟨bo, oo + i, none⟩ = some (.slice Ap np cp) := by rw [hnp, ← htb, ← hpv]; exact hxo i _ (by rw [List.getElem?_map, hp]; rfl)
            have j1 : (0 : Int) ≤ (i : Int) := by omega
            have j2 : (i : Int) < (n : Int) := by omega
            have j3 : (i : Int) < 1000 := by have := HKN.out; omega
            clear h7 hi2 hp hpm hpv htb hnp hx' hxo hil e2 e3 hb0 hnk
            have HTB1 := Lib.hid (told_bse HOT.out HBS.out)
            by_cases hd5 : 5 ≤ 0
            · omega
            have gd : ¬ (5 : Int) < (0 : Int) + 1 := by omega
            have gd2 : (0 : Int) ≤ (0 : Int) := by omega
            have gd3 : (0 : Int) < 5 := by omega
            have HD5 := Lib.hid hd5
            have CA := rapply_all Ap A3 np cp n3 c3 tb dl w7 HRP.out (HRDL.out.below HB7.out (Nat.le_refl _)) HDB.out HPB.out (by have := HN3.out; omega) HNP.out
            unfold RApplyPost at CA
            cases hap : Dl.applyP tb dl with
            | err e1 =>
              rw [hap] at CA
              simp only at CA
              have HE := Lib.hid (HBAD.out (e1 + 1) (step_bad (by rw [HTB1.out, HDP.out, if_neg hd5, HTBE.out, hap])))
              have gne : (((e1 + 1 : Nat) : Int) != 0) = true := by simp; omega
              generalize e1 + 1 = e2 at CA HE gne
              clear hap hd5
              go_wp2_with (go_at_call 24; refine pause ?_)
              unfold Paused
              refine CA.mono ?_
              rintro e w9 ⟨rfl, hb9⟩
              have HB9 := Lib.hid (below_then HB7.out hb9)
              clear hb9 CA
              go_wp2
              go_ret3
              exact HE.out _ _ (by rfl) HB9.out
            | ok t =>
              rw [hap] at CA
              simp only at CA
              have HTO : Hid (Pk.told (out.map Pk.It.item) (kn.map Pk.It.item) (1 :: zs) = .ok ((t, 0 + 1), rs2)) := Lib.hid (by rw [HTB1.out, HDP.out, if_neg hd5, HTBE.out, hap])
              have HTB := Lib.hid (applyP_byte HPB.out HDB.out hap).1
              clear hap hd5
              go_wp2_with (go_at_call 24; refine pause ?_)
              unfold Paused
              refine CA.mono ?_
              rintro e wt ⟨v0, rfl, hpad⟩
              obtain ⟨At, ct, rfl⟩ := hpad.len
              have HTT : Hid (Rd wt (.slice At t.length ct) t) := Lib.hid hpad.rd
              have HNW : Hid (Rd w (.slice At t.length ct) t ∨ ∃ A n c, (Value.slice At t.length ct) = .slice A n c ∧ NewAt wr.heap.size A n) := Lib.hid (Or.inr ⟨At, _, ct, rfl, (newAt_own hpad.own).mono HW7.out.size⟩)
              have HBT := Lib.hid (below_next HW7.out hpad.bel)
              clear hpad CA HBS HTB1 HRP HPB HTBE
              obtain ⟨nt, hnt⟩ : ∃ n, n = t.length := ⟨_, rfl⟩
              have HNT := Lib.hid hnt
              rw [← hnt] at HTT HNW ⊢
              by_cases hlg : 300 < nt
              · have CP := rparse_large At nt ct wt hlg
                have HAD : Hid (Pk.adm (out.map Pk.It.item) t = 13) := Lib.hid (by unfold Pk.adm; rw [if_pos (by omega)])
                have HE := Lib.hid (HBAD.out 13 (by rw [step_adm HTO.out]; simp only; rw [HAD.out, if_neg (by decide)]))
                clear hnt
                go_wp2_with (go_at_call 25; refine pause ?_)
                unfold Paused
                refine CP.mono ?_
                rintro e w8 ⟨rfl, hb8⟩
                have HB8 := Lib.hid (below_then (below_then HRD.out.bel HBT.out) hb8)
                clear hb8 CP hlg
                go_wp2_with (with_reducible (show wpList _ _ _ (Oper.mk _ (Op.store 65 _ _) _ _ _ _ :: _) _ _); refine pause ?_)
                unfold Paused
                change wpList _ _ _ _ _ (w8.alloc (.cells zc0 65))
                refine wpList_store_row (by rfl) 65 (.tmp 26) (.tmp 138) (by rfl) w8.heap.size zc0 (by rfl) (by rfl) 65 zc0 (Blk.new w8 _ _) (by kernel_rfl) (by rfl) (by kernel_rfl) ?_
                have b9 : Below w8.heap.size w8 ((w8.alloc (.cells zc0 65)).setRow w8.heap.size zc0) := below_row ((Below.refl _ _).alloc (Nat.le_refl _) _) (Nat.le_refl _) _
                have HB9 := Lib.hid (below_then HB8.out b9)
                clear b9
                generalize (w8.alloc (.cells zc0 65)).setRow w8.heap.size zc0 = w9 at HB9 ⊢
                generalize w8.heap.size = g9
                simp only [Act.put]
                go_wp2
                go_ret3
                exact HE.out _ _ (by rfl) HB9.out
              have hz300 : t.length ≤ 300 := by omega
              have HZ := Lib.hid hz300
              have CP := rparse_any t At ct wt (by rw [← hnt]; exact HTT.out) (oc_bytes HTB.out) hz300
              rw [← hnt] at CP
              unfold RPost at CP
              cases hpt : Ob.parse t with
              | bad c =>
                have hc0 := Pk.parse_bad_pos hpt
                have HAD : Hid (Pk.adm (out.map Pk.It.item) t = c) := Lib.hid (by unfold Pk.adm; rw [if_neg (by omega), hpt])
                have HE := Lib.hid (HBAD.out c (by rw [step_adm HTO.out]; simp only; rw [HAD.out, if_neg (by omega)]))
                have gc : ((c : Int) != 0) = true := by simp; omega
                have HPT := Lib.hid hpt
                clear hnt hz300 hlg hc0 hpt
                go_wp2_with (go_at_call 25; refine pause ?_)
                unfold Paused
                refine CP.mono ?_
                rintro e w8 ⟨hb8, h2, _⟩
                obtain rfl := h2 c HPT.out
                have HB8 := Lib.hid (below_then (below_then HRD.out.bel HBT.out) hb8)
                clear hb8 h2 CP
                go_wp2_with (with_reducible (show wpList _ _ _ (Oper.mk _ (Op.store 65 _ _) _ _ _ _ :: _) _ _); refine pause ?_)
                unfold Paused
                change wpList _ _ _ _ _ (w8.alloc (.cells zc0 65))
                refine wpList_store_row (by rfl) 65 (.tmp 26) (.tmp 138) (by rfl) w8.heap.size zc0 (by rfl) (by rfl) 65 zc0 (Blk.new w8 _ _) (by kernel_rfl) (by rfl) (by kernel_rfl) ?_
                have b9 : Below w8.heap.size w8 ((w8.alloc (.cells zc0 65)).setRow w8.heap.size zc0) := below_row ((Below.refl _ _).alloc (Nat.le_refl _) _) (Nat.le_refl _) _
                have HB9 := Lib.hid (below_then HB8.out b9)
                clear b9
                generalize (w8.alloc (.cells zc0 65)).setRow w8.heap.size zc0 = w9 at HB9 ⊢
                generalize w8.heap.size = g9
                simp only [Act.put]
                go_wp2
                go_ret3
                exact HE.out _ _ (by rfl) HB9.out
              | ok o =>
                have HAD : Hid (Pk.adm (out.map Pk.It.item) t = if (Pk.idx out (Sha.sum t) out.length).isSome then 20 else 0) := Lib.hid (by unfold Pk.adm; rw [if_neg (by omega), hpt, fnd_isSome])
                have HPT := Lib.hid hpt
                clear hnt hz300 hlg hpt
                go_wp2_with (go_at_call 25; refine pause ?_)
                unfold Paused
                refine CP.mono ?_
                rintro e w8 ⟨hb8, _, h3⟩
                obtain ⟨cs, T1, tc, E1, ec, P1, pc, rfl, hfit, _, hob⟩ := h3 o HPT.out
                have HC36 := Lib.hid (hob.size hfit)
                have HC1 : Hid (cs.all (·.oneCell') = true) := Lib.hid (by rw [hob.cells]; exact cellsOb_one _ _ _ _ _ _ _ _ _ _ _)
                have HB8 := Lib.hid hb8
                clear hb8 h3 CP hfit hob HPT
                go_wp2_with (with_reducible (show wpList _ _ _ (Oper.mk _ (Op.store 65 _ _) _ _ _ _ :: _) _ _); refine pause ?_)
                unfold Paused
                change wpList _ _ _ _ _ (w8.alloc (.cells zc0 65))
                refine wpList_store_row (by rfl) 65 (.tmp 26) (.tmp 138) (by rfl) w8.heap.size cs (by rfl) (by rfl) 65 zc0 (Blk.new w8 _ _) (by rw [HC36.out]; kernel_rfl) (by rw [HC36.out]; rfl) HC1.out ?_
                have b9 : Below w8.heap.size w8 ((w8.alloc (.cells zc0 65)).setRow w8.heap.size cs) := below_row ((Below.refl _ _).alloc (Nat.le_refl _) _) (Nat.le_refl _) _
                have HB9 := Lib.hid (below_then HB8.out b9)
                clear b9
                generalize (w8.alloc (.cells zc0 65)).setRow w8.heap.size cs = w9 at HB9 ⊢
                generalize w8.heap.size = g9
                simp only [Act.put]
                clear HC36 HC1 HB8
                have CID := rid_any (.slice At nt ct) t w9 (HTT.out.below HB9.out (Nat.le_refl _)) HTB.out (by have := HZ.out; omega)
                go_wp2_with (go_at_call 26; refine pause ?_)
                unfold Paused
                refine CID.mono ?_
                rintro e w10 ⟨rfl, hb10⟩
                have HB10 := Lib.hid (below_then HB9.out hb10)
                have HS := Lib.hid (sum_id t)
                clear hb10 CID HB9
                obtain ⟨su, hsu⟩ : ∃ su, su = Sha.sum t := ⟨_, rfl⟩
                rw [← hsu] at HS HAD ⊢
                have HSU := Lib.hid hsu
                clear hsu
                go_wp2_with (with_reducible (show wpList _ _ _ (Oper.mk _ (Op.store 48 _ _) _ _ _ _ :: _) _ _); refine pause ?_)
                unfold Paused
                change wpList _ _ _ _ _ (w10.alloc (.cells (u8s (List.replicate 32 0)) 48))
                refine wpList_store_row (by rfl) 48 (.tmp 28) (.tmp 144) (by rfl) w10.heap.size (u8s su) (by rfl) (by rfl) 48 (u8s (List.replicate 32 0)) (Blk.new w10 _ _) (by rw [u8s_size, HS.out.1]; exact id_size) (by rw [u8s_size, u8s_size, HS.out.1]; rfl) (u8s_one _) ?_
                have b11 : Below w10.heap.size w10 ((w10.alloc (.cells (u8s (List.replicate 32 0)) 48)).setRow w10.heap.size (u8s su)) := below_row ((Below.refl _ _).alloc (Nat.le_refl _) _) (Nat.le_refl _) _
                have HB11 := Lib.hid (below_then HB10.out b11)
                have hblk : Blk ((w10.alloc (.cells (u8s (List.replicate 32 0)) 48)).setRow w10.heap.size (u8s su)) w10.heap.size 48 (u8s su) := (Blk.new w10 _ _).row _
                have hr11 := rd_blk hblk (by rw [HS.out.1]; decide)
                rw [HS.out.1] at hr11
                have cv := conv_rd hr11
                obtain ⟨T11, hT11⟩ : ∃ T, T = textOf su := ⟨_, rfl⟩
                rw [← hT11] at cv
                have HT11 := Lib.hid hT11
                clear b11 HB10 hblk hr11 hT11
                generalize (w10.alloc (.cells (u8s (List.replicate 32 0)) 48)).setRow w10.heap.size (u8s su) = w11 at HB11 cv ⊢
                generalize w10.heap.size = g11 at cv ⊢
                simp only [Act.put]
                have CF := pfind_any Av k cv1 out su T11 w11 HT11.out HS.out.2 (HTX.out w11 (below_next HBT.out HB11.out)) (by have := HKM.out; omega) HOL.out
                unfold RFindPost at CF
                cases hix : Pk.idx out su out.length with
                | some i =>
                  rw [hix] at CF
                  have HE := Lib.hid (HBAD.out 20 (by rw [step_adm HTO.out]; simp only; rw [HAD.out, hix]; rfl))
                  have gi : (0 : Int) ≤ (i : Int) := by omega
                  simp only [Pk.at_] at CF
                  clear hix
                  go_wp2_with (go_at_call 23; refine pause ?_)
                  unfold Paused
                  refine CF.mono ?_
                  rintro e w12 ⟨rfl, hb12⟩
                  have HB12 := Lib.hid (below_then (below_then HRD.out.bel (below_next HBT.out HB11.out)) hb12)
                  clear hb12 CF cv
                  go_wp2
                  go_ret3
                  exact HE.out _ _ (by rfl) HB12.out
                | none =>
                  rw [hix] at CF
                  have HST : Hid (Pk.step (out.map Pk.It.item) (kn.map Pk.It.item) (1 :: zs) = .ok ((t, 0 + 1), rs2)) := Lib.hid (by rw [step_adm HTO.out]; simp only; rw [HAD.out, hix]; rfl)
                  simp only [Pk.at_] at CF
                  clear hix
                  go_wp2_with (go_at_call 23; refine pause ?_)
                  unfold Paused
                  refine CF.mono ?_
                  rintro e w12 ⟨rfl, hb12⟩
                  have HB12 := Lib.hid (below_then HB11.out hb12)
                  clear hb12 CF cv HB11
                  go_wp2_with (with_reducible (show wpList _ _ _ (Oper.mk _ (Op.call (Call.mk (Callee.builtin Builtin.append) _ _)) _ _ _ _ :: _) _ _); refine pause ?_)
                  unfold Paused
                  change wpList _ _ _ _ _ (w12.alloc (.cells #[.slice At nt ct] 22))
                  have hb13 : Below wt.heap.size wt (w12.alloc (.cells #[.slice At nt ct] 22)) := below_then HB12.out ((Below.refl _ _).alloc (Nat.le_refl _) _)
                  have HX13 := Lib.hid (Blk.new w12 22 #[.slice At nt ct])
                  have HB13 := Lib.hid hb13
                  have HR13 := Lib.hid (HRD.out.below (below_next HBT.out hb13))
                  have HTR := Lib.hid (HTT.out.below hb13 (Nat.le_refl _))
                  clear hb13 HB12
                  generalize w12.alloc (.cells #[.slice At nt ct] 22) = w13 at HX13 HB13 HR13 HTR ⊢
                  generalize w12.heap.size = g13 at HX13 ⊢
                  obtain ⟨ei, hei, hez, hes, heb⟩ := info_parts elL_info
                  refine wpList_append_lies w13 (by rfl) (.tmp 150) (.tmp 152) 23 (by rfl) w.heap.size 22 ei _ 1 24 Tryz.underlying23 hei hez hes heb (by rfl) (by decide) (.slice Av k cv1) k (out.map (·.val)) (by rfl) HR13.out.own ⟨g13, 0, none⟩ 1 1 [.slice At nt ct] (by rfl) (by rfl) (fun j u hj => by rw [Addr.add_mid, Nat.zero_add, HX13.out.cell j]; simpa using hj) (by intro u hu; rw [List.mem_singleton.1 hu]; rfl) (by decide) (by unfold maxLen; have := HKM.out; omega) (by have := HKM.out; omega) HR13.out.bel.size w13.heap.size rfl ?_
                  intro g14 c14 w14 ho14 hg14 hl14 _
                  have HO14 := Lib.hid ho14
                  have HG14 := Lib.hid hg14
                  have HL14 := Lib.hid hl14
                  clear ho14 hg14 hl14 hei hez hes heb
                  simp only [Act.put]
                  go_wp2_with (with_reducible (show wpList _ _ _ (Oper.mk _ (Op.call (Call.mk (Callee.builtin Builtin.append) _ _)) _ _ _ _ :: _) _ _); refine pause ?_)
                  unfold Paused
                  change wpList _ _ _ _ _ (w14.alloc (.cells #[.int .i64 ((0 + 1 : Nat) : Int)] 3))
                  have HX15 := Lib.hid (Blk.new w14 3 #[.int .i64 ((0 + 1 : Nat) : Int)])
                  have HB15 : Hid (Below w14.heap.size w14 (w14.alloc (.cells #[.int .i64 ((0 + 1 : Nat) : Int)] 3))) := Lib.hid ((Below.refl _ _).alloc (Nat.le_refl _) _)
                  have HD15 : Hid ((w14.alloc (.cells #[.int .i64 ((0 + 1 : Nat) : Int)] 3)).ownsRow w.heap.size 3 1 (.slice Ad k cd1) k (out.map depV)) := Lib.hid (rd8_dep HR13.out HG14.out ((Below.refl _ _).alloc (Nat.le_refl _) _))
                  have HZ15 : Hid (w.heap.size ≤ (w14.alloc (.cells #[.int .i64 ((0 + 1 : Nat) : Int)] 3)).heap.size) := Lib.hid (Nat.le_trans HR13.out.bel.size (Nat.le_trans HG14.out.size HB15.out.size))
                  generalize w14.alloc (.cells #[.int .i64 ((0 + 1 : Nat) : Int)] 3) = w15 at HX15 HB15 HD15 HZ15 ⊢
                  generalize w14.heap.size = g15 at HX15 ⊢
                  obtain ⟨ej, hej, hejz, hejs, hejb⟩ := info_parts eli_info
                  refine wpList_append_lies w15 (by rfl) (.tmp 154) (.tmp 156) 31 (by rfl) w.heap.size 3 ej _ 1 8 Tryz.underlying31 hej hejz hejs hejb (by rfl) (by decide) (.slice Ad k cd1) k (out.map depV) (by rfl) HD15.out ⟨g15, 0, none⟩ 1 1 [.int .i64 ((0 + 1 : Nat) : Int)] (by rfl) (by rfl) (fun j u hj => by rw [Addr.add_mid, Nat.zero_add, HX15.out.cell j]; simpa using hj) (by intro u hu; rw [List.mem_singleton.1 hu]; rfl) (by decide) (by unfold maxLen; have := HKM.out; omega) (by have := HKM.out; omega) HZ15.out w15.heap.size rfl ?_
                  intro g16 c16 w16 ho16 hg16 hl16 _
                  have HN16 : Hid (RD8 w w16 (.slice A6 rs2.length c6) (.slice (some ⟨g14, 0, none⟩) (k + 1) c14) (.slice (some ⟨g16, 0, none⟩) (k + 1) c16) kn m ys (k + 1) (out ++ [⟨t, 0 + 1, .slice At nt ct⟩]) rs2) := Lib.hid (HRD.out.step HLT.out HKB.out (p := ⟨t, 0 + 1, .slice At nt ct⟩) (q := ((t, 0 + 1), rs2)) HST.out rfl HRS.out (below_next HBT.out HB13.out) HTR.out HNW.out HO14.out HG14.out (HL14.out.elim (fun e => Or.inl e.symm) (fun e => Or.inr (by rw [e]; rfl))) HB15.out ho16 hg16 (hl16.elim (fun e => Or.inl e.symm) (fun e => Or.inr (by rw [e]; rfl))))
                  clear ho16 hg16 hl16 hej hejz hejs hejb
                  generalize rs2.length = n6 at HN16 ⊢
                  simp only [Act.put]
                  go_wp2
                  go_roundw
                  case rel => exact ⟨k + 1, by have := HLT.out; omega, by go_num, _, _, HN16⟩
                  case measure => have := HLT.out; simp [intOf]; omega
    · obtain rfl : k = m := by omega
      have i1 : ¬ ((k : Nat) : Int) < k := by omega
      have hgo := HRD.out.go
      rw [Nat.sub_self] at hgo
      by_cases hr0 : 0 < nr
      · have g3 : (0 : Int) < (nr : Int) := by omega
        have HE : Hid (Pk.decode (kn.map Pk.It.item) (k :: ys) = .bad 3) := Lib.hid (by rw [HDC.out, hgo, Pk.go, if_neg (by rw [← HNR.out]; omega)])
        clear hgo hr0
        go_wp2
        go_ret3
        exact RDecPost.bad HE.out rfl HRD.out.bel
      · have g3 : ¬ (0 : Int) < (nr : Int) := by omega
        have HF : Hid (RDecPost w kn (k :: ys) (.returned (.tuple #[.slice Av k cv1, .slice Ad k cd1, .int .i64 0])) wr) := Lib.hid (by
          unfold RDecPost
          rw [HDC.out, hgo, Pk.go, if_pos (by rw [← HNR.out]; omega)]
          exact ⟨HRD.out.bel, _, _, out, rfl, rfl, HRD.out.txts, rdl_own HRD.out.dep (by rw [List.length_map, HRD.out.len])⟩)
        clear hgo hr0
        go_wp2
        go_ret3
        exact HF.out
end Go.Proofs.YtolfphfdeccleaaGreatDoor
