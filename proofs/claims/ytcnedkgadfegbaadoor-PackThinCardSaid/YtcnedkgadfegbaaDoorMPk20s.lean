/- Encode: the pack of any texts. -/
import Derived.Test.YtcnedkgadfegbaaDoorMPk19
import Derived.Test.YtcnedkgadfegbaaDoorMShaHexs
namespace Go.Proofs.YtcnedkgadfegbaaDoor
open Go Go.RowKit
theorem small_u8b (n : Nat) (h : n ≤ 64) : IntKind.u8.wrap (n : Int) = (n : Int) := by
  show (n : Int) % 256 = n
  omega
theorem own_one (w : World) (base x : Nat) (h : base ≤ w.heap.size) : (w.alloc (.cells (u8s [x]) 5)).ownsRow base 5 1 (.slice (some ⟨w.heap.size, 0, none⟩) 1 1) 1 (cellsB [x]) :=
  ⟨rfl, .inr ⟨w.heap.size, 1, u8s [x], rfl, h, heap_alloc_new w _, Nat.le_refl _, by unfold maxLen; omega, rfl, rfl⟩⟩
/-- what stands between two texts -/
def EncL (w0 w : World) (g mb B : Nat) (its : List Pk.It) (k : Nat) : Prop := ∃ out lid last pk v, WrS w0 w g mb B out lid last pk v ∧ out.length = k ∧ Pk.encode (its.map (·.text)) = Pk.encGo ((its.drop k).map (·.text)) (out.map Pk.It.item) last.item pk
/-- how Encode ends -/
def EncPost (w : World) (a : Nat → Addr) (its : List Pk.It) (e : Ending) (w' : World) : Prop :=
  (∀ c, Pk.encode (its.map (·.text)) = .bad c → e = .returned (.tuple #[nilV, ecode a c]) ∧ Below w.heap.size w w') ∧
  (∀ b, Pk.encode (its.map (·.text)) = .ok b → ∃ A c, e = .returned (.tuple #[.slice A b.length c, .nilIface]) ∧ Rd w' (.slice A b.length c) b ∧ Below w.heap.size w w')
/-- how a text is put, between two -/
def EncNext (w0 : World) (g mb B : Nat) (its : List Pk.It) (a : Nat → Addr) (k : Nat) (e : Ending) (w' : World) : Prop :=
  (e = .returned .nilIface ∧ EncL w0 w' g mb B its (k + 1)) ∨ ∃ c, e = .returned (ev (a (c - 1))) ∧ Pk.encode (its.map (·.text)) = .bad c ∧ Below w0.heap.size w0 w'
theorem enc_put {w0 w : World} {g mb B : Nat} {its : List Pk.It} {k : Nat} (a : Nat → Addr) (A : Option Addr) (c : Nat) (p : Pk.It) (n : Nat) (h : EncL w0 w g mb B its k) (hp : its[k]? = some p) (hv : p.val = .slice A n c) (hr : Rd w0 p.val p.text ∧ Sha.Byte p.text) (hz : p.text.length ≤ 100000) (hf : its.length ≤ 64) (ht : Tabs w0) (hS : KSents w0 a) (hm : ∃ m, w0.cell? ⟨12, 0, none⟩ = some (.int .i64 m)) :
    Calls Tryd.prog 16 #[.pointer (some ⟨g, 0, none⟩), .slice A n c] w (EncNext w0 g mb B its a k) := by
  obtain ⟨out, lid, last, pk, v, hW, hl, he⟩ := h
  have hk : k < its.length := (List.getElem?_eq_some_iff.1 hp).1
  have hd : its.drop k = p :: its.drop (k + 1) := by
    rw [List.drop_eq_getElem_cons hk]
    congr 1
    exact (List.getElem?_eq_some_iff.1 hp).2
  refine (pput_any a p.text A n c hW (hv ▸ hr.1) hr.2 hz (by omega) ht hS hm).mono fun e w' hP => ?_
  rw [hd, List.map_cons, Pk.encGo] at he
  by_cases ha : Pk.adm (out.map Pk.It.item) p.text = 0
  · obtain ⟨v', rfl, hW'⟩ := hP.1 ha
    rw [if_pos ha] at he
    refine Or.inl ⟨rfl, _, _, _, _, v', hW', by rw [List.length_append, hl]; rfl, ?_⟩
    rw [he, List.map_append]
    rfl
  · obtain ⟨rfl, hb⟩ := hP.2 ha
    rw [if_neg ha] at he
    exact Or.inr ⟨_, rfl, he, hb⟩
set_option maxRecDepth 100000 in
set_option maxHeartbeats 8000000 in
theorem encode_any (A : Option Addr) (n c : Nat) (its : List Pk.It) (a : Nat → Addr) (w : World) (h : Txts w (.slice A n c) its) (hz : ∀ p ∈ its, p.text.length ≤ 100000) (ht : Tabs w) (hS : KSents w a) (hm : ∃ m, w.cell? ⟨12, 0, none⟩ = some (.int .i64 m)) :
    Calls Tryd.prog 11 #[.slice A n c] w (EncPost w a its) := by
  have hn : n = its.length := by
    obtain ⟨A', c', hv, _⟩ := h.row
    injection hv with e1 e2 e3
    rw [e2, List.length_map]
  by_cases h64 : 64 < n
  · have HE : Hid (Pk.encode (its.map (·.text)) = .bad 22) := Lib.hid (by unfold Pk.encode; rw [if_pos (by rw [List.length_map]; omega)])
    have g1 : (64 : Int) < (n : Int) := by omega
    have pF : w.cell? ⟨2, 0, none⟩ = some (ev (a 21)) := (hS 21 (by omega)).var
    clear h hz ht hS hm hn h64
    go_enter Tryd.func11, Tryd.ntmps11
    go_wp2
    go_quiet (fail)
    go_wp2
    have HB : Hid (Below w.heap.size w (w.drewN nq)) := Lib.hid (below_drewN (Below.refl _ w) nq)
    go_ret2
    refine ⟨fun c hc => ?_, fun b hb => ?_⟩
    · rw [HE.out] at hc
      cases hc
      exact ⟨rfl, HB.out⟩
    · rw [HE.out] at hb
      cases hb
  have HCE : Hid (0 < n → ∃ b o, A = some ⟨b, o, none⟩ ∧ b < w.heap.size ∧ ∀ i (hi : i < n), ∃ A1 l1 c1 p, its[i]? = some p ∧ p.val = .slice A1 l1 c1 ∧ w.cell? ⟨b, o + i, none⟩ = some (.slice A1 l1 c1)) := Lib.hid (fun h0 => by
    obtain ⟨A', c', hv, _, hA⟩ := h.row
    injection hv with e1 e2 e3
    obtain ⟨b, o, ha, hb, hx⟩ := hA (by rw [List.length_map]; omega)
    refine ⟨b, o, by rw [e1, ha], hb, fun i hi => ?_⟩
    obtain ⟨p, hp⟩ : ∃ p, its[i]? = some p := ⟨its[i]'(by omega), List.getElem?_eq_getElem _⟩
    obtain ⟨⟨A1, c1, hpv, _⟩, _⟩ := h.rd p (List.mem_of_getElem? hp)
    exact ⟨A1, _, c1, p, hp, hpv, by rw [← hpv]; exact hx i _ (by rw [List.getElem?_map, hp]; rfl)⟩)
  have HN := Lib.hid hn
  have HN64 : Hid (n ≤ 64) := Lib.hid (by omega)
  have HT := Lib.hid h
  have HZ := Lib.hid hz
  have HTB := Lib.hid ht
  have HS := Lib.hid hS
  have HMX := Lib.hid hm
  have g1 : ¬ (64 : Int) < (n : Int) := by omega
  have c8 : IntKind.u8.wrap (n : Int) = (n : Int) := small_u8b n HN64.out
  have hE0 : Pk.encode (its.map (·.text)) = Pk.encGo ((its.drop 0).map (·.text)) (([] : List Pk.It).map Pk.It.item) (⟨[], 0, nilV⟩ : Pk.It).item [n] := by
    unfold Pk.encode
    rw [if_neg (by rw [List.length_map]; omega), List.length_map, ← hn]
    rfl
  have HE0 := Lib.hid hE0
  clear h hz ht hS hm hn h64 hE0
  obtain ⟨w2, hw2⟩ : ∃ w2, w2 = (w.alloc (.map #[] 0)).alloc (.cells (u8s [n]) 5) := ⟨_, rfl⟩
  have b2 : Below w.heap.size w w2 := hw2 ▸ ((Below.refl _ _).alloc (Nat.le_refl _) _).alloc (by simp) _
  have HOW : Hid (w2.ownsRow (w.heap.size + 1) 5 1 (.slice (some ⟨w.heap.size + 1, 0, none⟩) 1 1) 1 (cellsB [n])) := Lib.hid (by
    rw [hw2]
    have h := own_one (w.alloc (.map #[] 0)) (w.heap.size + 1) n (by rw [World.size_alloc]; exact Nat.le_refl _)
    rwa [World.size_alloc] at h)
  have HMO : Hid (MapO w2 w.heap.size 0 (fun id => (Pk.fnd [] id).map Pk.It.v)) := Lib.hid (by
    rw [hw2]
    exact (MapO.ext (f := fun _ => none) (MapO.made w) (fun x _ => rfl)).below ((Below.refl _ _).alloc (Nat.le_refl _) _))
  have HSZ : Hid (w2.heap.size = w.heap.size + 2) := Lib.hid (by rw [hw2]; simp)
  have HB := Lib.hid b2
  have mm := wmap_made w
  have e2 := hw2.symm
  clear b2 hw2
  go_enter Tryd.func11, Tryd.ntmps11
  go_wp2_with (with_reducible (show wpList _ _ _ (Oper.mk _ (Op.build 53 _) _ _ _ _ :: _) _ _); refine pause ?_)
  unfold Paused
  change wpList _ _ _ _ _ ((w.alloc (.map #[] 0)).alloc (.cells (u8s [n]) 5))
  rw [e2]
  refine wpList_buildK (by rfl) 53 _ (by rfl) [(0, .map (some w.heap.size)), (2, .slice (some ⟨w.heap.size + 1, 0, none⟩) 1 1)] (by kernel_rfl) _ (wr_built _ _ _ _) ?_
  go_wp2_with (with_reducible (show wpList _ _ _ (Oper.mk _ (Op.store 53 _ _) _ _ _ _ :: _) _ _); refine pause ?_)
  unfold Paused
  change wpList _ _ _ _ _ (w2.alloc (.cells (wrC none (itemC zid nilV 0) nilV).toArray 53))
  refine wpList_store_row (by rfl) 53 (.tmp 4) (.tmp 17) (by rfl) w2.heap.size (wrC (some w.heap.size) (itemC zid nilV 0) (.slice (some ⟨w.heap.size + 1, 0, none⟩) 1 1)).toArray (by rfl) (by rfl) 53 (wrC none (itemC zid nilV 0) nilV).toArray (Blk.new w2 _ _) (by rw [List.size_toArray, wrC_len (itemC_len zid_id _ _)]; exact wr_size) (by rw [List.size_toArray, List.size_toArray, wrC_len (itemC_len zid_id _ _), wrC_len (itemC_len zid_id _ _)]) (wrC_one rfl rfl _ _) ?_
  have b3 : Below w2.heap.size w2 ((w2.alloc (.cells (wrC none (itemC zid nilV 0) nilV).toArray 53)).setRow w2.heap.size (wrC (some w.heap.size) (itemC zid nilV 0) (.slice (some ⟨w.heap.size + 1, 0, none⟩) 1 1)).toArray) := below_row ((Below.refl _ _).alloc (Nat.le_refl _) _) (Nat.le_refl _) _
  have hX3 : Blk ((w2.alloc (.cells (wrC none (itemC zid nilV 0) nilV).toArray 53)).setRow w2.heap.size (wrC (some w.heap.size) (itemC zid nilV 0) (.slice (some ⟨w.heap.size + 1, 0, none⟩) 1 1)).toArray) w2.heap.size 53 (wrC (some w.heap.size) (itemC zid nilV 0) (.slice (some ⟨w.heap.size + 1, 0, none⟩) 1 1)).toArray := (Blk.new w2 _ _).row _
  have ho3 : ((w2.alloc (.cells (wrC none (itemC zid nilV 0) nilV).toArray 53)).setRow w2.heap.size (wrC (some w.heap.size) (itemC zid nilV 0) (.slice (some ⟨w.heap.size + 1, 0, none⟩) 1 1)).toArray).ownsRow (w.heap.size + 1) 5 1 (.slice (some ⟨w.heap.size + 1, 0, none⟩) 1 1) 1 (cellsB [n]) := own_farRow (ownsRow_alloc HOW.out _) (fun k hk => by
    have e1 : k = w.heap.size + 1 := by simpa [Value.ownBlock] using hk.symm
    have := HSZ.out
    omega) _
  have HI : Hid (EncL w ((w2.alloc (.cells (wrC none (itemC zid nilV 0) nilV).toArray 53)).setRow w2.heap.size (wrC (some w.heap.size) (itemC zid nilV 0) (.slice (some ⟨w.heap.size + 1, 0, none⟩) 1 1)).toArray) w2.heap.size w.heap.size (w.heap.size + 1) its 0) := Lib.hid ⟨[], zid, ⟨[], 0, nilV⟩, [n], _, ⟨hX3, HMO.out.below b3, fun p hp => absurd hp (by simp), ho3, ⟨⟨none, 0, rfl, Nat.le_refl _, fun h => absurd h (by simp)⟩, fun i => by simp, Nat.zero_le _, Nat.zero_le _⟩, ⟨zid_id, Or.inr rfl⟩, ⟨by omega, Nat.le_refl _, by have := HSZ.out; omega, by have := HSZ.out; have := b3.size; omega⟩, below_next HB.out b3, by simp⟩, rfl, HE0.out⟩
  generalize (w2.alloc (.cells (wrC none (itemC zid nilV 0) nilV).toArray 53)).setRow w2.heap.size (wrC (some w.heap.size) (itemC zid nilV 0) (.slice (some ⟨w.heap.size + 1, 0, none⟩) 1 1)).toArray = w3 at HI ⊢
  clear b3 e2 mm hX3 ho3 HB HSZ HMO HOW
  generalize w2.heap.size = g4 at HI ⊢
  simp only [Act.put]
  go_wp2
  go_loopw [20] (fun i wr => ∃ k : Nat, k ≤ n ∧ i = .int .i64 k ∧ Hid (EncL w wr g4 w.heap.size (w.heap.size + 1) its k)) (fun i _ => n - (intOf i).toNat)
  case atStart => exact ⟨0, Nat.zero_le _, rfl, HI⟩
  case round =>
    obtain ⟨k, hk, rfl, HEk⟩ := hrel
    by_cases hlt : k < n
    · obtain ⟨b, o, rfl, hbw, hx⟩ := HCE.out (by omega)
      obtain ⟨A1, l1, c1, p, hp, hpv, pc⟩ := hx k hlt
      have i1 : ((k : Nat) : Int) < n := by omega
      have i2 : (0 : Int) ≤ ((k : Nat) : Int) := by omega
      have i3 : ((k : Nat) : Int) < 64 := by have := HN64.out; omega
      have hbel : Below w.heap.size w wr := by obtain ⟨out, lid, last, pk, v, hW, _⟩ := HEk.out; exact hW.bel
      have pc' : wr.cell? ⟨b, o + k, none⟩ = some (.slice A1 l1 c1) := (hbel.cell (p := ⟨b, o + k, none⟩) hbw).trans pc
      have CP := enc_put a A1 c1 p l1 HEk.out hp hpv (HT.out.rd p (List.mem_of_getElem? hp)) (HZ.out p (List.mem_of_getElem? hp)) (by have := HN.out; have := HN64.out; omega) HTB.out HS.out HMX.out
      clear hp hpv hx pc hbel hbw
      go_wp2_with (go_at_call 16; refine pause ?_)
      unfold Paused
      refine CP.mono ?_
      rintro e w5 hN
      rcases hN with ⟨rfl, h5⟩ | ⟨cc, rfl, hc, hb5⟩
      · have HI5 := Lib.hid h5
        clear h5 CP pc'
        go_wp2
        go_roundw
        case rel => exact ⟨k + 1, by omega, by go_num, HI5⟩
        case measure => simp [intOf]; omega
      · have HC := Lib.hid hc
        have HB5 := Lib.hid hb5
        clear hc hb5 CP pc'
        go_wp2
        go_ret2
        refine ⟨fun c hc => ?_, fun b hb => ?_⟩
        · rw [HC.out] at hc
          cases hc
          exact ⟨rfl, HB5.out⟩
        · rw [HC.out] at hb
          cases hb
    · obtain rfl : k = n := by omega
      have ik : ¬ ((k : Nat) : Int) < k := by omega
      obtain ⟨out, lid, last, pk, v, hW, hl, he⟩ := HEk.out
      obtain ⟨Ap, cp, hvp, _⟩ := rd_of_own hW.own rfl
      have p35 : wr.cell? ⟨g4, 35, none⟩ = some (.slice Ap pk.length cp) := hvp ▸ hW.c33.2.2.2
      have HRP : Hid (Rd wr (.slice Ap pk.length cp) pk) := Lib.hid (hvp ▸ rd_of_own hW.own rfl)
      have HBW := Lib.hid hW.bel
      rw [List.drop_of_length_le (by have := HN.out; omega)] at he
      have he2 : Pk.encode (its.map (·.text)) = if 2000 < pk.length then .bad 13 else .ok pk := he
      have pL : wr.cell? ⟨0, 0, none⟩ = some (ev (a 12)) := (hW.bel.cell (block_lt_of_cell (HS.out 12 (by omega)).var)).trans (HS.out 12 (by omega)).var
      clear hW hl he hvp HEk
      obtain ⟨m, hmm⟩ : ∃ m, pk.length = m := ⟨_, rfl⟩
      rw [hmm] at p35 he2
      by_cases h2 : 2000 < m
      · have g2 : (2000 : Int) < (m : Int) := by omega
        rw [if_pos h2] at he2
        have HE := Lib.hid he2
        clear he2 h2
        go_wp2
        go_quiet (fail)
        go_wp2
        have HB : Hid (Below w.heap.size w (wr.drewN nq)) := Lib.hid (below_drewN HBW.out nq)
        go_ret2
        refine ⟨fun c hc => ?_, fun b hb => ?_⟩
        · rw [HE.out] at hc
          cases hc
          exact ⟨rfl, HB.out⟩
        · rw [HE.out] at hb
          cases hb
      · have g2 : ¬ (2000 : Int) < (m : Int) := by omega
        rw [if_neg h2] at he2
        have HE := Lib.hid he2
        have HM := Lib.hid hmm
        clear he2 h2 hmm
        go_wp2
        go_ret2
        refine ⟨fun c hc => ?_, fun b hb => ?_⟩
        · rw [HE.out] at hc
          cases hc
        · rw [HE.out] at hb
          cases hb
          exact ⟨Ap, cp, by rw [HM.out]; rfl, HRP.out, HBW.out⟩
end Go.Proofs.YtcnedkgadfegbaaDoor
/- What is encoded is made of bytes, and not too long. -/
namespace Go.Proofs.YtcnedkgadfegbaaDoor.Pk
open Go Go.Proofs.YtcnedkgadfegbaaDoor
theorem lays_mem {last : Item} {t : List Nat} (h1 : last.1.length ≤ 300) (h2 : t.length ≤ 300) (hb : Sha.Byte t) : ∀ x ∈ (lays last t).1, x < 256 := by
  unfold lays
  split
  · have hm := mk_len_le last.1 t
    have hk := Dl.mem_mk h1 h2 hb
    intro x hx
    simp only [List.mem_append, List.mem_cons, List.not_mem_nil, or_false] at hx
    rcases hx with (rfl | hx) | (rfl | rfl) | hx
    · omega
    · exact Dl.mem_byte (sum_id last.1).2 x hx
    · omega
    · omega
    · exact Dl.mem_byte hk x hx
  · intro x hx
    simp only [List.mem_append, List.mem_cons, List.not_mem_nil, or_false] at hx
    rcases hx with rfl | (rfl | rfl) | hx
    · omega
    · omega
    · omega
    · exact Dl.mem_byte hb x hx
theorem encGo_byte : ∀ (l : List (List Nat)) (out : List Item) (last : Item) (pk b : List Nat), encGo l out last pk = .ok b → Sha.Byte pk → (∀ t ∈ l, Sha.Byte t) → last.1.length ≤ 300 → Sha.Byte b ∧ b.length ≤ 2000
  | [], out, last, pk, b, h, hp, hl, h3 => by
    unfold encGo at h
    split at h
    · cases h
    · cases h
      exact ⟨hp, by omega⟩
  | t :: r, out, last, pk, b, h, hp, hl, h3 => by
    unfold encGo at h
    split at h
    · rename_i ha
      have ht := (admit_zero ha).1
      have h1 := hl t (by simp)
      refine encGo_byte r _ _ _ b h (Dl.byte_of_mem fun x hx => ?_) (fun u hu => hl u (by simp [hu])) ht
      rcases List.mem_append.1 hx with hx | hx
      · exact Dl.mem_byte hp x hx
      · exact lays_mem h3 ht h1 x hx
    · cases h
theorem encode_byte {l : List (List Nat)} {b : List Nat} (h : encode l = .ok b) (hl : ∀ t ∈ l, Sha.Byte t) : Sha.Byte b ∧ b.length ≤ 2000 := by
  unfold encode at h
  split at h
  · cases h
  · refine encGo_byte l [] ([], 0) [l.length] b h (Dl.byte_of_mem fun x hx => ?_) hl (by simp)
    rw [List.mem_singleton.1 hx]
    omega
end Go.Proofs.YtcnedkgadfegbaaDoor.Pk
/- The law PackThin. -/
namespace Go.Proofs.YtcnedkgadfegbaaDoor
open Go Go.RowKit
theorem pcount_any (A : Option Addr) (n c x : Nat) (r : List Nat) (w : World) (h : Rd w (.slice A n c) (x :: r)) (hx : x ≤ 64) :
    Calls Tryd.prog 10 #[.slice A n c] w fun e w' => e = .returned (.tuple #[.int .i64 (x : Int), .nilIface]) ∧ w' = w := by
  obtain ⟨A', c', hv, hc, hA⟩ := h
  injection hv with e1 e2 e3
  obtain ⟨b, o, rfl, hb, hr⟩ := hA (by simp)
  subst e1 e2 e3
  have p0 : w.cell? ⟨b, o, none⟩ = some (.int .u8 (x : Int)) := hr 0 (by simp)
  rw [List.length_cons]
  have g0 : ((r.length + 1 : Nat) : Int) ≠ 0 := by omega
  have g1 : (0 : Int) < ((r.length + 1 : Nat) : Int) := by omega
  have w8 : wrap64 (x : Int) = (x : Int) := IntWalk.wrap64_in _ (by omega)
  generalize r.length + 1 = m at g0 g1
  clear hr hA hc hb
  go_enter Tryd.func10, Tryd.ntmps10
  go_wp2
  go_ret2
  exact ⟨rfl, rfl⟩
set_option maxRecDepth 100000 in
set_option maxHeartbeats 8000000 in
theorem pthin_law (Ab : Option Addr) (nb cb : Nat) (xs : List Nat) (A : Option Addr) (n c : Nat) (its : List Pk.It) (a : Nat → Addr) (w : World) (hv : Rd w (.slice Ab nb cb) xs) (hb : Sha.Byte xs) (hT : Txts w (.slice A n c) its) (hd : ∀ p ∈ its, p.depth = 0) (ht : Tabs w) (hS : KSents w a) (hm : MX w) :
    Calls Tryd.prog 4 #[.slice Ab nb cb, .slice A n c] w fun e w' => e = .returned (.bool true) ∧ Below w.heap.size w w' := by
  have AL := palive_any w
  have hnb : nb = xs.length := by obtain ⟨_, _, hv, _⟩ := hv; injection hv
  have hnl : n = its.length := by
    obtain ⟨A', c', hv, _⟩ := hT.row
    injection hv with e1 e2 e3
    rw [e2, List.length_map]
  by_cases h1 : 2500 < nb
  · have g1 : (2500 : Int) < (nb : Int) := by omega
    clear hv hb hT hd ht hS hm hnb hnl h1
    go_enter Tryd.func4, Tryd.ntmps4
    go_wp2_with (go_at_call 5; refine AL.mono ?_; rintro e w1 ⟨rfl, hb1⟩)
    go_ret
    exact ⟨rfl, hb1⟩
  have g1 : ¬ (2500 : Int) < (nb : Int) := by omega
  have LG := fun (w1 : World) (h1 : Below w.heap.size w w1) => long_any A n c its w1 (hT.below h1)
  have HV := Lib.hid hv
  have HB := Lib.hid hb
  have HT := Lib.hid hT
  have HD := Lib.hid hd
  have HTB := Lib.hid ht
  have HS := Lib.hid hS
  have HMX : Hid (∃ m, w.cell? ⟨12, 0, none⟩ = some (.int .i64 m)) := Lib.hid hm
  have HNL := Lib.hid hnl
  have HZ : Hid (xs.length ≤ 1000000) := Lib.hid (by omega)
  clear hv hb hT hd ht hS hm hnb hnl h1
  go_enter Tryd.func4, Tryd.ntmps4
  go_wp2_with (go_at_call 5; refine pause ?_)
  unfold Paused
  refine AL.mono ?_
  rintro e w1 ⟨rfl, hb1⟩
  have H1 := Lib.hid hb1
  have LG1 := LG w1 hb1
  clear hb1 AL LG
  go_wp2_with (go_at_call 6; refine pause ?_)
  unfold Paused
  refine LG1.mono ?_
  rintro e w2 ⟨β, rfl, hβ, rfl⟩
  rcases β with _ | _
  · obtain ⟨h70, h400⟩ := hβ rfl
    by_cases h12 : 12 < n
    · have g2 : (12 : Int) < (n : Int) := by omega
      clear LG1 hβ h70 h400
      go_wp2
      go_ret
      exact ⟨rfl, H1.out⟩
    have g2 : ¬ (12 : Int) < (n : Int) := by omega
    have hK2 : Known w2 A c its := (Known.of (HT.out.below H1.out) HD.out (fun p hp => by have := h400 p hp; omega) (by omega)).2
    clear LG1 hβ h70 h400 h12
    have CD := decodeL_any (kn := its) a xs Ab nb cb w2 (HV.out.below H1.out (Nat.le_refl _)) HB.out HZ.out hK2 (HTB.out.below H1.out (Nat.le_refl _)) (HS.out.at_ H1.out)
    rw [← HNL.out] at CD
    unfold DecL at CD
    clear hK2
    cases hdc : Pk.decode (its.map Pk.It.item) xs with
    | bad c' =>
      rw [hdc] at CD
      simp only at CD
      clear hdc
      unfold ecode at CD
      go_wp2_with (go_at_call 7; refine pause ?_)
      unfold Paused
      refine CD.mono ?_
      rintro e w3 ⟨rfl, hb3⟩
      have H3 := Lib.hid (below_next H1.out hb3)
      clear hb3 CD
      go_wp2
      go_ret
      exact ⟨rfl, H3.out⟩
    | ok l =>
      rw [hdc] at CD
      simp only at CD
      have HGD := Lib.hid (Pk.decode_good hdc)
      clear hdc
      go_wp2_with (go_at_call 7; refine pause ?_)
      unfold Paused
      refine CD.mono ?_
      rintro e w3 ⟨v3, out, ho3, rfl, hl3, hb3⟩
      have H3 := Lib.hid (below_next H1.out hb3)
      have HL3 := Lib.hid hl3
      have HO3 := Lib.hid ho3
      have hl3' := hl3.row
      obtain ⟨A3, c3, rfl, _, hA3⟩ := hl3'
      rw [List.length_map] at hA3 HL3 ⊢
      have HLEN : Hid (out.length = l.length) := Lib.hid (by rw [← ho3, List.length_map])
      obtain ⟨k3, hk3⟩ : ∃ k, out.length = k := ⟨_, rfl⟩
      have HK3 := Lib.hid hk3
      have HK64 : Hid (k3 ≤ 64) := Lib.hid (by rw [← hk3, HLEN.out]; exact HGD.out.2.2)
      rw [hk3] at hA3 HL3 ⊢
      have HGO : Hid (∀ (i : Nat) (p : Pk.It), out[i]? = some p → p.text.length ≤ 300 ∧ ∃ o, Ob.parse p.text = .ok o) := Lib.hid (fun i p hp => by
        have h1 := HGD.out.1 p.item (by rw [← HO3.out]; exact List.mem_map_of_mem (List.mem_of_getElem? hp))
        exact ⟨h1.1, h1.2.1⟩)
      have HCE : Hid (0 < k3 → ∃ b o, A3 = some ⟨b, o, none⟩ ∧ b < w3.heap.size ∧ ∀ i (hi : i < k3), ∃ A1 l1 c1 p, out[i]? = some p ∧ p.val = .slice A1 l1 c1 ∧ w3.cell? ⟨b, o + i, none⟩ = some (.slice A1 l1 c1)) := Lib.hid (fun h0 => by
        obtain ⟨b, o, ha, hb, hx⟩ := hA3 h0
        refine ⟨b, o, ha, hb, fun i hi => ?_⟩
        obtain ⟨p, hp⟩ : ∃ p, out[i]? = some p := ⟨out[i]'(by omega), List.getElem?_eq_getElem _⟩
        obtain ⟨⟨A1, c1, hpv, _⟩, _⟩ := hl3.rd p (List.mem_of_getElem? hp)
        exact ⟨A1, _, c1, p, hp, hpv, by rw [← hpv]; exact hx i _ (by rw [List.getElem?_map, hp]; rfl)⟩)
      clear hb3 CD hl3 ho3 hA3 hk3
      go_wp2
      go_loopw [42] (fun i wr => ∃ k : Nat, k ≤ k3 ∧ i = .int .i64 k ∧ Hid (Below w3.heap.size w3 wr)) (fun i _ => k3 - (intOf i).toNat)
      case atStart => exact ⟨0, Nat.zero_le _, rfl, Lib.hid (Below.refl _ _)⟩
      case round =>
        obtain ⟨k, hk, rfl, HB4⟩ := hrel
        by_cases hlt : k < k3
        · obtain ⟨b, o, rfl, hbw, hx⟩ := HCE.out (by omega)
          obtain ⟨A1, l1, c1, p, hp, hpv, pc⟩ := hx k hlt
          obtain ⟨h300, ob, hob⟩ := HGO.out k p hp
          have i1 : ((k : Nat) : Int) < k3 := by omega
          have i2 : (0 : Int) ≤ ((k : Nat) : Int) := by omega
          have i3 : ((k : Nat) : Int) < 64 := by have := HK64.out; omega
          have pc' : wr.cell? ⟨b, o + k, none⟩ = some (.slice A1 l1 c1) := (HB4.out.cell (p := ⟨b, o + k, none⟩) hbw).trans pc
          have hrd := HL3.out.rd p (List.mem_of_getElem? hp)
          have CP := parseOk_of (hpv ▸ hrd.1) hrd.2 h300 (HS.out.at_ H3.out) hob wr HB4.out
          clear hp hpv hx pc hbw hrd h300 hob
          go_wp2_with (go_at_call 9; refine pause ?_)
          unfold Paused
          refine CP.mono ?_
          rintro e w5 ⟨cs, rfl, h36, hc1, hb5⟩
          have HC := Lib.hid h36
          have HC1 := Lib.hid hc1
          have HB5 := Lib.hid (below_then HB4.out hb5)
          clear hb5 CP h36 hc1 pc'
          go_wp2_with (with_reducible (show wpList _ _ _ (Oper.mk _ (Op.store 37 _ _) _ _ _ _ :: _) _ _); refine pause ?_)
          unfold Paused
          change wpList _ _ _ _ _ (w5.alloc (.cells zOc 37))
          refine wpList_store_row (by rfl) 37 (.tmp 9) (.tmp 49) (by rfl) w5.heap.size cs (by rfl) (by rfl) 37 zOc (Blk.new w5 _ _) (obj36 HC.out) (by rw [HC.out]; rfl) HC1.out ?_
          have b6 : Below w5.heap.size w5 ((w5.alloc (.cells zOc 37)).setRow w5.heap.size cs) := below_row ((Below.refl _ _).alloc (Nat.le_refl _) _) (Nat.le_refl _) _
          have HB6 := Lib.hid (below_then HB5.out b6)
          clear b6
          generalize (w5.alloc (.cells zOc 37)).setRow w5.heap.size cs = w6 at HB6 ⊢
          simp only [Act.put]
          go_wp2
          go_roundw
          case rel => exact ⟨k + 1, by omega, by go_num, HB6⟩
          case measure => simp [intOf]; omega
        · obtain rfl : k = k3 := by omega
          have ik : ¬ ((k : Nat) : Int) < k := by omega
          clear hk hlt
          have H4 := Lib.hid (below_next H3.out HB4.out)
          obtain ⟨r, hr⟩ := HGD.out.2.1
          have hlk : l.length = k := by rw [← HLEN.out, HK3.out]
          have CC := pcount_any Ab nb cb k r wr (by rw [← hlk, ← hr]; exact HV.out.below H4.out (Nat.le_refl _)) HK64.out
          clear hr hlk
          go_wp2_with (go_at_call 10; refine pause ?_)
          unfold Paused
          refine CC.mono ?_
          rintro e w5 ⟨rfl, h5⟩
          obtain rfl : wr = w5 := h5.symm
          have CE := encode_any A3 k c3 out a wr (HL3.out.below HB4.out) (fun p hp => by
            obtain ⟨i, hi⟩ := List.mem_iff_getElem?.1 hp
            have := (HGO.out i p hi).1
            omega) (HTB.out.below H4.out (Nat.le_refl _)) (HS.out.at_ H4.out) (by obtain ⟨m, hm⟩ := HMX.out; exact ⟨m, (H4.out.cell (block_lt_of_cell hm)).trans hm⟩)
          clear CC
          cases hen : Pk.encode (out.map (·.text)) with
          | bad ce =>
            have CE2 := CE.mono (fun e w' (h : EncPost wr a out e w') => h.1 ce hen)
            have h0 : 0 < k := by
              rcases Nat.eq_zero_or_pos k with h | h
              · have h2 := HK3.out
                rw [h] at h2
                rw [List.eq_nil_of_length_eq_zero h2] at hen
                exact absurd hen (by rw [show ([] : List Pk.It).map (·.text) = [] from rfl, Pk.encode_none]; intro h; cases h)
              · exact h
            have H0 := Lib.hid h0
            clear CE hen h0
            unfold ecode at CE2
            go_wp2_with (go_at_call 11; refine pause ?_)
            unfold Paused
            refine CE2.mono ?_
            rintro e w6 ⟨rfl, hb6⟩
            have H6 := Lib.hid (below_next H4.out hb6)
            clear hb6 CE2
            go_wp2
            go_ret
            exact ⟨congrArg (fun b => Ending.returned (.bool b)) (decide_eq_true H0.out), H6.out⟩
          | ok pb =>
            have CE2 := CE.mono (fun e w' (h : EncPost wr a out e w') => h.2 pb hen)
            obtain ⟨its2, hd2, hm2⟩ := Pk.encode_back [] hen
            have HD2 := Lib.hid hd2
            have HM2 := Lib.hid hm2
            have HPB : Hid (Sha.Byte pb ∧ pb.length ≤ 1000000) := Lib.hid (by
              have h1 := Pk.encode_byte hen (fun t ht => by
                obtain ⟨p, hp, rfl⟩ := List.mem_map.1 ht
                exact (HL3.out.rd p hp).2)
              exact ⟨h1.1, by have := h1.2; omega⟩)
            clear CE hen hd2 hm2
            go_wp2_with (go_at_call 11; refine pause ?_)
            unfold Paused
            refine CE2.mono ?_
            rintro e w6 ⟨A6, c6, rfl, hr6, hb6⟩
            have H6 := Lib.hid (below_next H4.out hb6)
            have CD := decodeL_any (kn := []) a pb A6 pb.length c6 w6 hr6 HPB.out.1 HPB.out.2 (known_nil w6) (HTB.out.below H6.out (Nat.le_refl _)) (HS.out.at_ H6.out)
            have HB6 := Lib.hid (below_then HB4.out hb6)
            unfold DecL at CD
            rw [show ([] : List Pk.It).map Pk.It.item = [] from rfl, HD2.out] at CD
            simp only [List.length_nil] at CD
            clear hb6 hr6 CE2
            go_wp2_with (go_at_call 7; refine pause ?_)
            unfold Paused
            refine CD.mono ?_
            rintro e w7 ⟨v7, out7, ho7, rfl, hl7, hb7⟩
            have H7 := Lib.hid (below_next H6.out hb7)
            have HB7 := Lib.hid (below_then HB6.out hb7)
            have e7 : out7.map (·.text) = out.map (·.text) := by rw [items_texts ho7]; exact HM2.out
            have hk7 : out7.length = k := by rw [← HK3.out]; have := congrArg List.length e7; simpa using this
            have HL7 := (HL3.out.below HB7.out).ll
            have HR7 := e7 ▸ hl7.ll
            obtain ⟨A1, c1, e1, _, hl1, hA1, he1⟩ := HL7
            obtain ⟨A2, c2, rfl, _, hl2, hA2, he2⟩ := HR7
            injection e1 with e11 e12 e13
            subst e11 e13
            rw [← e12] at hl1 hA1 hl2 hA2 ⊢
            obtain ⟨ls, hls⟩ : ∃ ls, ls = out.map (·.text) := ⟨_, rfl⟩
            rw [← hls] at he1 he2
            obtain ⟨us, hus⟩ : ∃ us, us = out.map (·.val) := ⟨_, rfl⟩
            rw [← hus] at hl1 hA1 he1
            obtain ⟨vs, hvs⟩ : ∃ vs, vs = out7.map (·.val) := ⟨_, rfl⟩
            rw [← hvs] at hl2 hA2 he2
            have HA1 := Lib.hid hA1
            have HA2 := Lib.hid hA2
            have HE1 := Lib.hid he1
            have HE2 := Lib.hid he2
            have HL1 := Lib.hid hl1
            have HL2 := Lib.hid hl2
            clear hA1 hA2 he1 he2 hl1 hl2 hls hus hvs e12 e7 hk7 ho7 hl7 hb7 CD
            go_wp2
            go_loopw [93] (fun j wr2 => ∃ q : Nat, q ≤ k ∧ j = .int .i64 q ∧ ∃ m, wr2 = w7.drewN m) (fun j _ => k - (intOf j).toNat)
            case atStart => exact ⟨0, Nat.zero_le _, rfl, 0, rfl⟩
            case round =>
              obtain ⟨q, hq, rfl, m, rfl⟩ := hrel
              by_cases hlt : q < k
              · have i0 : ((q : Nat) : Int) < (k : Int) := by omega
                have i1 : (0 : Int) ≤ ((q : Nat) : Int) := by omega
                have i3 : ((q : Nat) : Int) < 64 := by have := HK64.out; omega
                obtain ⟨b1, o1, rfl, hb1, hx1⟩ := HA1.out (by omega)
                obtain ⟨b2, o2, rfl, hb2, hx2⟩ := HA2.out (by omega)
                obtain ⟨u1, hu1⟩ : ∃ u, us[q]? = some u := ⟨us[q]'(by rw [HL1.out]; exact hlt), List.getElem?_eq_getElem _⟩
                obtain ⟨u2, hu2⟩ : ∃ u, vs[q]? = some u := ⟨vs[q]'(by rw [HL2.out]; exact hlt), List.getElem?_eq_getElem _⟩
                obtain ⟨wo, hwo⟩ : ∃ wo, wo = w7.drewN m := ⟨_, rfl⟩
                have p1 : wo.cell? ⟨b1, o1 + q, none⟩ = some u1 := by rw [hwo]; exact hx1 q u1 hu1
                have p2 : wo.cell? ⟨b2, o2 + q, none⟩ = some u2 := by rw [hwo]; exact hx2 q u2 hu2
                have r1 := HE1.out q u1 hu1
                have r2 := HE2.out q u2 hu2
                obtain ⟨T, hT⟩ : ∃ T, T = textOf (ls.getD q []) := ⟨_, rfl⟩
                have q1 : ∀ q, (convert 22 9 u1).run Tryd.prog (wo.drewN q) = .ok (.string T) (wo.drewN q) := fun q => by rw [hT, hwo]; exact conv_rd (w := (w7.drewN m).drewN q) r1
                have q2 : ∀ q, (convert 22 9 u2).run Tryd.prog (wo.drewN q) = .ok (.string T) (wo.drewN q) := fun q => by rw [hT, hwo]; exact conv_rd (w := (w7.drewN m).drewN q) r2
                have HLT := Lib.hid hlt
                have HWO : Hid (∀ q, ∃ m', wo.drewN q = w7.drewN m') := Lib.hid (fun q => ⟨m + q, by rw [hwo]; simp⟩)
                clear hx1 hx2 r1 r2 hT hu1 hu2 hlt hq hb1 hb2
                rw [← hwo]
                clear hwo
                go_wp2_with fail
                go_quiet (fail)
                go_wp2_with fail
                refine ⟨⟨q + 1, HLT.out, by simp, HWO.out _⟩, by have := HLT.out; simp [intOf]; omega⟩
              · obtain rfl : q = k := by omega
                have i0 : ¬ ((q : Nat) : Int) < (q : Int) := by omega
                clear hq hlt
                go_wp2
                have HF : Hid (Below w.heap.size w (w7.drewN m)) := Lib.hid (below_drewN H7.out m)
                go_ret
                exact ⟨rfl, HF.out⟩
  · clear LG1 hβ
    go_wp2
    go_ret
    exact ⟨rfl, H1.out⟩
end Go.Proofs.YtcnedkgadfegbaaDoor
