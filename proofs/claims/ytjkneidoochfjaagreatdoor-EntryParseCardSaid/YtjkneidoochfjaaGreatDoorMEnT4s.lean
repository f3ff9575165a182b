/- octets.Take of an entry: bytes left behind it. -/
import Derived.Test.YtjkneidoochfjaaGreatDoorMOb23s
import Derived.Lib.SplitLaws
import Derived.Lib.Bytealg
namespace Go.Proofs.YtjkneidoochfjaaGreatDoor
open Go Go.RowKit
set_option maxRecDepth 100000 in
set_option maxHeartbeats 1000000 in
theorem takeE_long (K : Nat) (cap : Array Value) (w0 w : World) (A : Option Addr) (n c : Nat) (xs zs : List Nat) (aL : Addr) (hK : ∀ args w, (callFunc K args).run Tryz.prog w = .ok (.enter K args) w)
    (hw : Below w0.heap.size w0 w) (hv : Rd w0 (.slice A n c) xs)
    (hread : ∀ (w2 : World) (i r : Nat), w.heap.size ≤ r → w.heap.size ≤ i → InAt w0 w2 i r xs → Below w.heap.size w w2 →
      Calls Tryz.prog K (#[.pointer (some ⟨i, 0, none⟩)] ++ cap) w2 fun e w' => ∃ cs, e = .returned (.agg cs) ∧ cs.size = 5 ∧ cs.all (·.oneCell') = true ∧ InAt w0 w' i r zs ∧ Kpt (fun b => b = r) w2 w')
    (hz0 : 0 < zs.length) (hL : w0.cell? ⟨4, 0, none⟩ = some (ev aL)) :
    Calls Tryz.prog 30 #[.slice A n c, .func (.func K) #[] cap] w fun e w' => e = .returned (.tuple #[.agg zE, ev aL]) ∧ Below w.heap.size w w' := by
  have hmf : ∀ (fn : Fn) (first cap : Array Value) (w : World), (Instr.makeFunc fn first cap).run Tryz.prog w = .ok (.func fn first cap) w := fun _ _ _ _ => rfl
  obtain ⟨u, hu⟩ : ∃ u, u = wzE w := ⟨_, rfl⟩
  have us : u.heap.size = w.heap.size + 2 := by rw [hu]; simp
  have ub : Below w.heap.size w u := hu ▸ ((Below.refl _ _).alloc (Nat.le_refl _) _).alloc (by simp) _
  have hw' : Below w0.heap.size w0 u := below_then hw ub
  have CR := runE_ok K cap u.heap.size (takeBox u (.slice A n c)) (fun cs w' => ∃ w1, InAt w0 w1 ((takeBox u (.slice A n c)).heap.size + 2) u.heap.size zs ∧ Kpt (fun b => b = u.heap.size) (runBoxE (takeBox u (.slice A n c)) u.heap.size) w1 ∧ cs.all (·.oneCell') = true ∧ w1.grownBy w' (some ((takeBox u (.slice A n c)).heap.size + 1))) hK
    ((hread (runBoxE (takeBox u (.slice A n c)) u.heap.size) ((takeBox u (.slice A n c)).heap.size + 2) u.heap.size (by omega) (by rw [takeBox_size]; omega) (inAtE_run hw' hv) (ub.trans ((belowE_run u _).mono (by omega)))).mono fun e w' ⟨cs, he, hs, h1, hi, hk⟩ => ⟨cs, he, hs, h1, hk.blk (resE_run u _) (by rw [takeBox_size]; omega), w', hi, hk, h1, World.grownBy.refl _ _⟩)
    (fun cs a b ⟨w1, h1, h2, h4, h5⟩ hg => ⟨w1, h1, h2, h4, only_trans h5 hg⟩)
  have HT : Hid ((((w.alloc (.cells zE 25)).alloc (.cells zE 25)).alloc (.cells #[.slice A n c, .bool true, .bool false, .nilIface] 109)).alloc (.cells #[.pointer (some ⟨w.heap.size + 1 + 1, 0, none⟩)] 107) = takeBox u (.slice A n c)) := Lib.hid (by
    show _ = (u.alloc _).alloc (.cells #[.pointer (some ⟨u.heap.size, 0, none⟩)] _)
    rw [us, hu])
  rw [us] at CR
  have HU := Lib.hid hu
  have hw0 := hw
  clear hread hw hv hw'
  go_enter_defers Tryz.func30, Tryz.ntmps30
  go_wp2_with (go_at_call 58; refine pause ?_)
  unfold Paused
  change Calls _ _ _ ((((w.alloc (.cells zE 25)).alloc (.cells zE 25)).alloc (.cells #[.slice A n c, .bool true, .bool false, .nilIface] 109)).alloc (.cells #[.pointer (some ⟨w.heap.size + 1 + 1, 0, none⟩)] 107)) _
  rw [HT.out]
  refine CR.mono ?_
  rintro e w5 ⟨cs, rfl, hs, wA, hi, hk, h1, hg⟩
  have hX : Below w.heap.size w (runBoxE (takeBox u (.slice A n c)) u.heap.size) := ub.trans ((belowE_run u _).mono (by omega))
  have hz4 : Blk u w.heap.size 25 zE := by rw [HU.out]; exact (Blk.new w 25 zE).alloc _
  have gne : ∀ k, k < w.heap.size + 4 → k ≠ (takeBox u (.slice A n c)).heap.size + 1 := fun k hk => by rw [takeBox_size]; omega
  have hgA : ∀ k (T : TypeId) (C : Array Value), k < w.heap.size + 4 → k ≠ w.heap.size + 2 → Blk (runBoxE (takeBox u (.slice A n c)) (w.heap.size + 2)) k T C → Blk w5 k T C := fun k T C hk1 hk2 hb => (hk.blk hb (by omega)).grown hg (fun e => gne k hk1 (by injection e))
  have hXb := belowE_run u (.slice A n c)
  rw [us] at hXb hX
  have B4 : Blk w5 w.heap.size 25 zE := hgA _ _ _ (by omega) (by omega) (hz4.below hXb (by omega))
  have B7 : Blk w5 (w.heap.size + 3) 107 #[.pointer (some ⟨w.heap.size + 2, 0, none⟩)] := hgA _ _ _ (by omega) (by omega) (by have h := varE_run u (.slice A n c); rw [us] at h; exact h)
  have hz6 : Blk u (w.heap.size + 1) 25 zE := by
    rw [HU.out]
    have h := Blk.new (w.alloc (.cells zE 25)) 25 zE
    rwa [World.size_alloc] at h
  have B6 : Blk w5 (w.heap.size + 1) 25 zE := hgA _ _ _ (by omega) (by omega) (hz6.below hXb (by omega))
  have cL : w5.cell? ⟨4, 0, none⟩ = some (ev aL) := by
    have hlt := block_lt_of_cell hL
    have h1 := (hi.bel.1.cell (p := ⟨4, 0, none⟩) hlt).trans hL
    have h2 := block_lt_of_cell h1
    have h3 := hw0.size
    exact (World.cell?_of_block (hg.block _ h2 (fun e => by injection e with e; rw [takeBox_size, us] at e; simp only at hlt e; omega))).trans h1
  obtain ⟨vz, hz, ⟨Az, cz, rfl, _, _⟩, _⟩ := hi
  have BR : Blk w5 (w.heap.size + 2) 109 #[.slice Az zs.length cz, .bool true, .bool false, .nilIface] := Blk.grown hz.r_ hg (fun e => gne (w.heap.size + 2) (by omega) (by injection e))
  have KA : Kpt (fun b => w.heap.size ≤ b) (runBoxE (takeBox u (.slice A n c)) (w.heap.size + 2)) w5 := ⟨hg.os.trans hk.os, hg.tape.trans hk.tape, hg.output.trans hk.output, Nat.le_trans hk.size hg.size, fun b hb hn => (hg.block b (Nat.lt_of_lt_of_le hb hk.size) (fun e => by injection e with e; rw [takeBox_size, us] at e; omega)).trans (hk.block b hb (by omega))⟩
  have sz5 : w.heap.size + 7 ≤ w5.heap.size := Nat.le_trans (by simp [us]) KA.size
  have HS := Lib.hid hs
  have H1 := Lib.hid h1
  have HB6' := Lib.hid B6
  have HCL := Lib.hid cL
  have HHK := Lib.hid hk
  have HHG := Lib.hid hg
  have HB4 := Lib.hid B4
  have HB7 := Lib.hid B7
  have HBR := Lib.hid BR
  have HKA := Lib.hid KA
  have HXX := Lib.hid hX
  have HSZ := Lib.hid sz5
  have HUS := Lib.hid us
  have i0 : (0 : Int) < (zs.length : Int) := by omega
  have hm : Tryz.prog.follows .mixedOrders = true := by kernel_rfl
  clear hz6 B6 cL hL hw0 hs h1 hk hg B4 B7 BR KA hX hXb hz hgA gne hz4 CR ub us sz5 hu
  go_wp2_with (with_reducible (show wpList _ _ _ (Oper.mk _ (Op.store 25 _ _) _ _ _ _ :: _) _ _); refine pause ?_)
  unfold Paused
  change wpList _ _ _ _ _ (w5.alloc (.cells zE 25))
  refine wpList_store_row (by rfl) 25 (.tmp 8) (.tmp 15) (by rfl) w5.heap.size cs (by rfl) (by rfl) 25 zE (Blk.new w5 _ _) (by rw [HS.out]; kernel_rfl) (by rw [HS.out]; rfl) H1.out ?_
  have b6 : Below w5.heap.size w5 ((w5.alloc (.cells zE 25)).setRow w5.heap.size cs) := below_row ((Below.refl _ _).alloc (Nat.le_refl _) _) (Nat.le_refl _) _
  have HB6 := Lib.hid b6
  have HB8 := Lib.hid ((Blk.new w5 25 zE).row cs)
  generalize (w5.alloc (.cells zE 25)).setRow w5.heap.size cs = w6 at b6 HB6 HB8 ⊢
  have p0 : w6.cell? ⟨w.heap.size + 3, 0, none⟩ = some (.pointer (some ⟨w.heap.size + 2, 0, none⟩)) := (HB7.out.below b6 HB7.out.lt).cell 0
  have p1 : w6.cell? ⟨w.heap.size + 2, 2, none⟩ = some (.bool false) := (HBR.out.below b6 HBR.out.lt).cell 2
  have p2 : w6.cell? ⟨w.heap.size + 2, 0, none⟩ = some (.slice Az zs.length cz) := (HBR.out.below b6 HBR.out.lt).cell 0
  have HB46 := Lib.hid (HB4.out.below b6 HB4.out.lt)
  have HB66 := Lib.hid (HB6'.out.below b6 HB6'.out.lt)
  have HBR6 := Lib.hid (HBR.out.below b6 HBR.out.lt)
  have pL : w6.cell? ⟨4, 0, none⟩ = some (ev aL) := (b6.cell (block_lt_of_cell HCL.out)).trans HCL.out
  clear b6
  simp only [Act.put]
  go_wp2
  refine wpn ?_
  refine wp_region_held (S := fun w' => w' = w6.drew) hm ?_
  change wpAnyH _ _ _ _ _ _ _ _ w6.drew
  refine wpAnyH_take (i := 0) (v := .agg zE) rfl (by kernel_rfl) (by kernel_rfl) (by kernel_rfl) (fun _ _ _ h => by cases h.1) (takes_row 25 (.tmp 6) (by rfl) (by rfl) (w.heap.size + 1) (by rfl) 25 zE _ (fun w' hw => by rw [hw]; exact HB66.out.drew) Tryz.underlying25 (by rfl) (by kernel_rfl)) rfl ?_
  try simp only [Act.put, List.getElem_toArray, List.getElem_cons_zero, List.setIfInBounds_toArray, List.set_cons_zero, List.set_cons_succ]
  refine wpAnyH_take (i := 1) (v := ?_) rfl (by kernel_rfl) (by kernel_rfl) (by kernel_rfl) (fun _ _ _ h => by cases h.1) (Or.inl ⟨by rfl, ?_⟩) rfl ?_
  rotate_left
  · rintro w' rfl; go_simp; with_reducible rfl
  try simp only [Act.put, List.getElem_toArray, List.getElem_cons_zero, List.getElem_cons_succ, List.setIfInBounds_toArray, List.set_cons_zero, List.set_cons_succ]
  refine all_one (i := 2) (by kernel_rfl) rfl (by rfl) (fun K hK => ?_)
  refine wp_store_row 25 (.tmp 4) (.tmp 31) (by rfl) w.heap.size zE (by rfl) (by rfl) 25 zE HB46.out.drew (by kernel_rfl) (by rfl) (by kernel_rfl) ?_
  rw [setRow_self w6.drew w.heap.size zE 25 (0, 0) HB46.out.drew]
  refine hK _ _ rfl ?_
  try simp only [Act.put, List.getElem_toArray, List.getElem_cons_zero, List.getElem_cons_succ]
  refine all_one (i := 3) (by kernel_rfl) rfl (by rfl) (fun K hK => ?_)
  go_simp
  refine hK _ _ rfl ?_
  try simp only [Act.put, List.getElem_toArray, List.getElem_cons_zero, List.getElem_cons_succ, List.setIfInBounds_toArray, List.set_cons_zero, List.set_cons_succ]
  refine wpAnyH_done (by kernel_rfl) ?_ _
  refine ⟨rfl, ?_⟩
  have q0 : w6.drew.cell? ⟨w.heap.size + 3, 0, none⟩ = some (.pointer (some ⟨w.heap.size + 2, 0, none⟩)) := p0
  clear p0 p1 p2 pL
  go_wp2
  refine leaves_cons (f := 57) (args := #[.pointer (some ⟨w.heap.size + 3, 0, none⟩)]) (by simp) (by simp [go_sem]) ?_
  refine (closeE_any (w.heap.size + 3) (w.heap.size + 2) _ _ _ _ w6.drew q0 HBR6.out.drew).mono ?_
  rintro e u' w8 ⟨rfl, rfl, hg8⟩
  have KB : Kpt (fun b => w.heap.size ≤ b) (runBoxE (takeBox u (.slice A n c)) (w.heap.size + 2)) w8 := ((HKA.out.trans (Kpt.of_below HB6.out)).trans (Kpt.of_below (below_drewN (Below.refl _ w6) 1))).trans (Kpt.of_grown hg8 (by omega))
  have hbl : Below w.heap.size w w8 := HXX.out.trans ⟨KB.os, KB.tape, KB.output, KB.size, fun k hk => KB.block k (Nat.lt_of_lt_of_le hk HXX.out.size) (by omega)⟩
  exact ⟨_, resultsE2 (t := 4) (s := 5) rfl (by rfl) (HB46.out.drew.grown hg8 (fun e => by injection e with e; omega)) (by rfl), rfl, hbl⟩
end Go.Proofs.YtjkneidoochfjaaGreatDoor
/- The mathematics of layer 3: parts of a text, which bytes and texts are names, which texts are below which, short texts. -/
namespace Go.Proofs.YtjkneidoochfjaaGreatDoor.Nm
open Go Go.Lib
/-- one byte more: the parts so far -/
def grow (acc : List (List UInt8)) (c : UInt8) : List (List UInt8) := if c = 47 then acc ++ [[]] else acc.dropLast ++ [acc.getLastD [] ++ [c]]
def parts (l : List UInt8) : List (List UInt8) := l.foldl grow [[]]
theorem parts_snoc (l : List UInt8) (c : UInt8) : parts (l ++ [c]) = grow (parts l) c := by simp [parts, List.foldl_append]
def partsR : List UInt8 → List (List UInt8)
  | [] => [[]]
  | c :: l => if c = 47 then [] :: partsR l else (c :: (partsR l).headD []) :: (partsR l).tail
theorem partsR_ne (l : List UInt8) : partsR l ≠ [] := by
  cases l with
  | nil => simp [partsR]
  | cons c l => unfold partsR; split <;> simp
theorem foldl_grow : ∀ (l : List UInt8) (acc : List (List UInt8)) (p : List UInt8), l.foldl grow (acc ++ [p]) = acc ++ ((p ++ (partsR l).headD []) :: (partsR l).tail)
  | [], acc, p => by simp [partsR]
  | c :: l, acc, p => by
    rw [List.foldl_cons]
    by_cases h : c = 47
    · rw [show grow (acc ++ [p]) c = (acc ++ [p]) ++ [[]] by simp [grow, h], foldl_grow l (acc ++ [p]) []]
      obtain ⟨x, r, e⟩ := List.exists_cons_of_ne_nil (partsR_ne l)
      simp [partsR, h, e]
    · rw [show grow (acc ++ [p]) c = acc ++ [p ++ [c]] by simp [grow, h], foldl_grow l acc (p ++ [c])]
      simp [partsR, h]
theorem parts_eq (l : List UInt8) : parts l = partsR l := by
  have h := foldl_grow l [] []
  obtain ⟨x, r, e⟩ := List.exists_cons_of_ne_nil (partsR_ne l)
  simp [e] at h
  rw [parts, h, e]
theorem index_cons (c : UInt8) (l : List UInt8) : index (c :: l) [47] = if c = 47 then 0 else if index l [47] == -1 then -1 else index l [47] + 1 := by
  rw [index]
  by_cases h : c = 47
  · simp [h, List.isPrefixOf]
  · rw [if_neg h, if_neg]
    simp [List.isPrefixOf]
    exact fun e => h e.symm
theorem split_parts : ∀ (l : List UInt8) (k : Nat), l.count 47 ≤ k → splitK [47] 0 k l = partsR l
  | [], k, _ => by cases k <;> simp [splitK, partsR, index]
  | c :: l, k, hk => by
    have ix := index_cons c l
    by_cases h : c = 47
    · rw [if_pos h] at ix
      rw [h, List.count_cons_self] at hk
      obtain ⟨k', rfl⟩ : ∃ k', k = k' + 1 := ⟨k - 1, by omega⟩
      rw [splitK, ix]
      simp [partsR, h, split_parts l k' (by omega)]
    · rw [if_neg h] at ix
      rw [List.count_cons_of_ne (by simpa using h)] at hk
      have ih := split_parts l k hk
      by_cases hm : (index l [47] == -1) = true
      · rw [if_pos hm] at ix
        have e1 : splitK [47] 0 k l = [l] := by cases k with | zero => rfl | succ k => rw [splitK, if_pos hm]
        have e2 : splitK [47] 0 k (c :: l) = [c :: l] := by cases k with | zero => rfl | succ k => rw [splitK, if_pos (by rw [ix]; rfl)]
        rw [e2, partsR, if_neg h, ← ih, e1]; rfl
      · rw [if_neg hm] at ix
        have hge := index_ge l [47]
        have hne : index l [47] ≠ -1 := fun e => hm (by simp [e])
        obtain ⟨i, hi⟩ : ∃ i : Nat, index l [47] = i := ⟨(index l [47]).toNat, by omega⟩
        have hc : 1 ≤ l.count 47 := by
          have := count_hit (s := l) (sub := [47]) (by simp) hi
          rw [count_one] at this; omega
        obtain ⟨k', rfl⟩ : ∃ k', k = k' + 1 := ⟨k - 1, by omega⟩
        rw [splitK, if_neg hm, hi] at ih
        have hm2 : ¬ (index (c :: l) [47] == -1) = true := by rw [ix, hi]; simp; omega
        rw [splitK, if_neg hm2, ix, hi, partsR, if_neg h, ← ih]
        have e : ((i : Int) + 1).toNat = i + 1 := by omega
        simp [e]
theorem splitB_parts (s : ByteArray) : (splitB ⟨#[47]⟩ 0 (countB s ⟨#[47]⟩) s).map (·.data.toList) = parts s.data.toList := by
  rw [splitB_data, parts_eq]
  exact split_parts _ _ (by show _ ≤ count _ [47]; rw [count_one]; exact Nat.le_refl _)
/-- the pieces, as the library's function lays them -/
def cut (s : ByteArray) : List ByteArray := splitB ⟨#[47]⟩ 0 (countB s ⟨#[47]⟩) s
theorem cut_parts (s : ByteArray) : (cut s).map (·.data.toList) = parts s.data.toList := splitB_parts s
theorem cut_len (s : ByteArray) : (cut s).length = countB s ⟨#[47]⟩ + 1 := splitB_all _ (Nat.le_refl _) 0 _ s rfl
theorem parts_len (s : ByteArray) : (parts s.data.toList).length = countB s ⟨#[47]⟩ + 1 := by rw [← cut_parts, List.length_map, cut_len]
theorem any_cut (p : List UInt8 → Bool) (s : ByteArray) : (cut s).any (fun x => p x.data.toList) = (parts s.data.toList).any p := by rw [← cut_parts, List.any_map]; rfl
theorem splitB_size (sep : ByteArray) (save : Nat) : ∀ (k : Nat) (s : ByteArray), ∀ x ∈ splitB sep save k s, x.size ≤ s.size
  | 0, s, x, hx => by simp [splitB] at hx; subst hx; exact Nat.le_refl _
  | k + 1, s, x, hx => by
    unfold splitB at hx
    split at hx
    · simp at hx; subst hx; exact Nat.le_refl _
    · rcases List.mem_cons.1 hx with rfl | hx
      · rw [ByteArray.size_extract]; omega
      · have := splitB_size sep save k _ x hx
        rw [ByteArray.size_extract] at this; omega
theorem cut_size (s : ByteArray) (x : ByteArray) (hx : x ∈ cut s) : x.size ≤ s.size := splitB_size _ _ _ _ x hx
/-! which bytes -/
def lettr (c : UInt8) : Bool := decide (97 ≤ (c.toNat : Int)) && decide ((c.toNat : Int) ≤ 122)
def figr (c : UInt8) : Bool := decide (48 ≤ (c.toNat : Int)) && decide ((c.toNat : Int) ≤ 57)
def among (more : List UInt8) (c : UInt8) : Bool := decide (0 ≤ indexByte more c)
def plain (more : List UInt8) (c : UInt8) : Bool := lettr c || figr c || among more c
def allL (p : UInt8 → Bool) (l : List UInt8) : Bool := l.all p
def bad (p : List UInt8) : Bool := !(allL (plain [45, 46]) p) || allL (among [46]) p
def ref (l : List UInt8) : Bool := decide (l.length ≤ 24) && decide (2 ≤ (parts l).length) && !((parts l).any bad)
theorem among_one (x c : UInt8) : among [x] c = (c == x) := by
  unfold among indexByte indexByte
  by_cases h : x = c
  · simp [h]
  · rw [if_neg (by simpa using h)]
    have h2 : ¬ c = x := fun e => h e.symm
    simp [h2]
theorem among_two (x y c : UInt8) : among [x, y] c = (c == x || c == y) := by
  unfold among indexByte indexByte indexByte
  by_cases h : x = c
  · simp [h]
  · have h2 : ¬ c = x := fun e => h e.symm
    by_cases k : y = c
    · simp [k, h]
    · have k2 : ¬ c = y := fun e => k e.symm
      simp [h, h2, k, k2]
/-! below, and short -/
theorem partsR_len : ∀ l : List UInt8, (partsR l).length ≤ l.length + 1
  | [] => Nat.le_refl _
  | c :: l => by
    have ih := partsR_len l
    unfold partsR
    split
    · simp only [List.length_cons]; omega
    · simp only [List.length_cons, List.length_tail]; omega
theorem partsR_mem : ∀ (l : List UInt8) (p : List UInt8), p ∈ partsR l → p.length ≤ l.length
  | [], p, h => by simp [partsR] at h; subst h; exact Nat.le_refl _
  | c :: l, p, h => by
    unfold partsR at h
    split at h
    · rcases List.mem_cons.1 h with rfl | h
      · simp
      · have := partsR_mem l p h; simp only [List.length_cons]; omega
    · rcases List.mem_cons.1 h with rfl | h
      · have h2 : (partsR l).headD [] ∈ partsR l := by
          obtain ⟨x, r, e⟩ := List.exists_cons_of_ne_nil (partsR_ne l)
          rw [e]; exact List.mem_cons_self ..
        have := partsR_mem l _ h2
        simp only [List.length_cons]; omega
      · have := partsR_mem l p (List.mem_of_mem_tail h); simp only [List.length_cons]; omega
theorem parts_len_le (l : List UInt8) : (parts l).length ≤ l.length + 1 := by rw [parts_eq]; exact partsR_len l
theorem parts_mem {l p : List UInt8} (h : p ∈ parts l) : p.length ≤ l.length := by rw [parts_eq] at h; exact partsR_mem l p h
theorem parts_ne (l : List UInt8) : parts l ≠ [] := by rw [parts_eq]; exact partsR_ne l
theorem parts_last (l : List UInt8) : ∃ acc p, parts l = acc ++ [p] ∧ p.length ≤ l.length ∧ acc.length ≤ l.length := by
  have h := parts_ne l
  have e := (List.dropLast_concat_getLast h).symm
  refine ⟨_, _, e, parts_mem (List.getLast_mem h), ?_⟩
  have := parts_len_le l
  rw [List.length_dropLast]; omega
theorem grow_slash (acc : List (List UInt8)) : grow acc 47 = acc ++ [[]] := by simp [grow]
theorem grow_else (acc : List (List UInt8)) (p : List UInt8) (c : UInt8) (h : c ≠ 47) : grow (acc ++ [p]) c = acc ++ [p ++ [c]] := by simp [grow, h]
theorem cut_eq (s : ByteArray) : cut s = (parts s.data.toList).map fun p => ⟨p.toArray⟩ := by
  rw [← cut_parts, List.map_map]
  conv => lhs; rw [← List.map_id (cut s)]
  apply List.map_congr_left
  intro x _
  rfl
/-! the same, byte by byte -/
theorem plain2 (c : UInt8) : plain [45, 46] c = (lettr c || figr c || (c == 45 || c == 46)) := by unfold plain; rw [among_two]
theorem dots_all (l : List UInt8) : allL (among [46]) l = decide (l.count 46 = l.length) := by
  unfold allL
  rw [Bool.eq_iff_iff, List.all_eq_true, decide_eq_true_eq, List.count_eq_length]
  constructor
  · intro h b hb; have := h b hb; rw [among_one] at this; exact (beq_iff_eq.1 this).symm
  · intro h b hb; rw [among_one, ← h b hb]; rfl
end Go.Proofs.YtjkneidoochfjaaGreatDoor.Nm
/- object.next: n bytes, one after another, on a row of the call's own. -/
namespace Go.Proofs.YtjkneidoochfjaaGreatDoor
open Go Go.RowKit
theorem own_ne' {w : World} {B n z r : Nat} {v : Value} {cs : List Value} {e : TypeId} (h : w.ownsRow B e z v n cs) (hr : r < B) : some r ≠ v.ownBlock := fun e => by
  have := (h.lt r e.symm).1
  omega
theorem own_far {w : World} {B n z r : Nat} {v : Value} {cs : List Value} {e : TypeId} (h : w.ownsRow B e z v n cs) (hr : r < B) : v.ownBlock = none ∨ v.ownBlock ≠ some r := by
  cases hv : v.ownBlock with
  | none => exact Or.inl rfl
  | some g => exact Or.inr (fun e => own_ne' h hr (by rw [hv, e]))
/-- The bytes read so far, and those that are left. -/
structure NX (w0 wf w : World) (i r : Nat) (v : Value) (k : Nat) (zs ys : List Nat) : Prop where
  at_ : InAt w0 w i r ys
  row : w.ownsRow wf.heap.size 5 1 v k (cellsB zs)
  grw : wf.grownBy w (some r)
  old : r < wf.heap.size ∧ i < wf.heap.size ∧ w0.heap.size ≤ wf.heap.size
section
variable {w0 wf w w' : World} {i r k : Nat} {v : Value} {zs ys : List Nat}
theorem NX.start (h : InAt w0 w i r ys) : NX w0 w w i r nilV 0 [] ys := by
  have h2 := h
  obtain ⟨v, k, hr, hw, h1, h3⟩ := h2
  exact ⟨h, World.ownsRow_nil _ _ _ _, World.grownBy.refl w _, k.r_.lt, k.i_.lt, hw.size⟩
theorem NX.read (h : NX w0 wf w i r v k zs ys) (hg : w.grownBy w' (some r)) {us : List Nat} (hi : InAt w0 w' i r us) : NX w0 wf w' i r v k zs us :=
  ⟨hi, h.row.kept hg (own_far h.row h.old.1), only_trans h.grw hg, h.old⟩
theorem NX.below (h : NX w0 wf w i r v k zs ys) (hb : Below w.heap.size w w') : NX w0 wf w' i r v k zs ys :=
  ⟨h.at_.below hb, h.row.kept (only_of_below hb none) (by cases hv : v.ownBlock with | none => exact Or.inl rfl | some g => exact Or.inr (by simp)), only_trans h.grw (only_of_below hb _), h.old⟩
theorem NX.app (h : NX w0 wf w i r v k zs ys) {v2 : Value} {k2 : Nat} {us : List Nat} (ho : w'.ownsRow wf.heap.size 5 1 v2 k2 (cellsB us)) (hg : w.grownBy w' v.ownBlock) : NX w0 wf w' i r v2 k2 us ys := by
  have n1 := own_ne' h.row h.old.1
  have n2 := own_ne' h.row h.old.2.1
  obtain ⟨u, a, hr, hw, h1, h2⟩ := h.at_
  refine ⟨⟨u, ⟨a.i_.grown hg n2, a.r_.grown hg n1, a.ne⟩, hr, below_own hw h.row h.old.2.2 hg, h1, h2⟩, ho, ?_, h.old⟩
  refine ⟨hg.os.trans h.grw.os, hg.tape.trans h.grw.tape, hg.output.trans h.grw.output, Nat.le_trans h.grw.size hg.size, fun j hj hne => ?_⟩
  rw [hg.block j (Nat.lt_of_lt_of_le hj h.grw.size) (own_ne' h.row hj)]
  exact h.grw.block j hj hne
end
theorem val_one (x : Nat) (ys : List Nat) : Oc.val ((x :: ys).take 1) = x := by simp [Oc.val]
/-- one byte read -/
theorem ibyte_ok (i r x : Nat) (ys : List Nat) (w0 w : World) (h : InAt w0 w i r (x :: ys)) (hb : Oc.bytes (x :: ys)) :
    Calls Tryz.prog 59 #[.pointer (some ⟨i, 0, none⟩), .int .u8 98] w fun e w' => e = .returned (.int .i64 ((x : Nat) : Int)) ∧ InAt w0 w' i r ys ∧ w.grownBy w' (some r) := by
  have hx := hb x (List.mem_cons_self ..)
  have h1 := inum_ok i r 98 1 (x :: ys) w0 w h rfl (by decide) (by decide) (by simp) hb (by rw [val_one]; show x ≤ 255; omega) rfl
  rw [val_one] at h1
  exact h1
theorem ibyte_short (i r : Nat) (aS : Addr) (w0 w : World) (h : InAt w0 w i r []) (hS : w0.cell? ⟨3, 0, none⟩ = some (ev aS)) :
    Calls Tryz.prog 59 #[.pointer (some ⟨i, 0, none⟩), .int .u8 98] w (Fails w r (ev aS)) :=
  inum_short i r 98 1 aS [] w0 w h rfl (by decide) (by simp) ((h.bel.1.cell (block_lt_of_cell hS)).trans hS)
theorem small_conv (x : Nat) (h : x < 256) : IntKind.u8.wrap (x : Int) = (x : Int) := by show ((x : Int)) % 256 = _; omega
theorem drop_at {xs : List Nat} {k : Nat} (h : k < xs.length) : xs.drop k = xs.getD k 0 :: xs.drop (k + 1) := by
  rw [List.drop_eq_getElem_cons h]; simp [List.getD, h]
theorem take_at {xs : List Nat} {k : Nat} (h : k < xs.length) : xs.take (k + 1) = xs.take k ++ [xs.getD k 0] := by
  rw [List.take_succ_eq_append_getElem h]; simp [List.getD, h]
def NRel (xs : List Nat) (w0 wf wr : World) (i r : Nat) (v : Value) (k : Nat) : Prop := NX w0 wf wr i r v k (xs.take k) (xs.drop k)
set_option maxRecDepth 100000 in
set_option maxHeartbeats 1000000 in
theorem onext_ok (i r n : Nat) (xs : List Nat) (w0 w : World) (h : InAt w0 w i r xs) (hb : Oc.bytes xs) (hn : n ≤ xs.length) (hz : n ≤ 1000000) :
    Calls Tryz.prog 103 #[.pointer (some ⟨i, 0, none⟩), .int .i64 (n : Int)] w fun e w' => ∃ v, e = .returned v ∧ w'.ownsRow w.heap.size 5 1 v n (cellsB (xs.take n)) ∧ InAt w0 w' i r (xs.drop n) ∧ w.grownBy w' (some r) := by
  have HX : Hid (NRel xs w0 w w i r nilV 0) := Lib.hid (NX.start h)
  have HB := Lib.hid hb
  have HN := Lib.hid hn
  clear h hb hn
  go_enter Tryz.func103, Tryz.ntmps103
  go_wp2
  go_loopw [5, 7] (fun v j wr => ∃ k : Nat, k ≤ n ∧ j = .int .i64 k ∧ Hid (NRel xs w0 w wr i r v k)) (fun _ j _ => n - (intOf j).toNat)
  case atStart => exact ⟨0, Nat.zero_le _, rfl, HX⟩
  case round =>
    obtain ⟨k, hk, rfl, HR⟩ := hrel
    by_cases hlt : k < n
    · have HA := HR.out.at_
      rw [drop_at (by have := HN.out; omega)] at HA
      have HC := Lib.hid (show Oc.bytes (xs.getD k 0 :: xs.drop (k + 1)) from by rw [← drop_at (by have := HN.out; omega)]; exact Oc.bytes_drop HB.out k)
      have HTK := Lib.hid (take_at (xs := xs) (k := k) (by have := HN.out; omega))
      have HLK := Lib.hid (show (xs.take k).length = k from by rw [List.length_take]; have := HN.out; omega)
      have HRd : Hid (NX w0 w wr i r u5 k (xs.take k) (xs.drop k)) := Lib.hid HR.out
      generalize xs.getD k 0 = x at HA HC HTK
      have CN := ibyte_ok i r x (xs.drop (k + 1)) w0 wr HA HC.out
      have q1 := small_conv x (HC.out x (List.mem_cons_self ..))
      have i1 : ((k : Nat) : Int) < n := by omega
      have i2 : (0 : Int) ≤ ((k : Nat) : Int) := by omega
      have i3 : ((k : Nat) : Int) < 1000000 := by omega
      clear HA
      go_wp2_with (first
        | (go_at_call 59; refine CN.mono ?_; rintro e w1 ⟨rfl, hi, hg⟩; have HY := Lib.hid (HRd.out.read hg hi); clear hi hg)
        | (with_reducible (show wpList _ _ _ (Oper.mk _ (Op.call (Call.mk (Callee.builtin Builtin.append) _ _)) _ _ _ _ :: _) _ _); refine pause ?_))
      unfold Paused
      change wpList _ _ _ _ _ (w1.alloc (.cells (u8s [x]) 5))
      have hbb : Below w1.heap.size w1 (w1.alloc (.cells (u8s [x]) 5)) := (Below.refl _ _).alloc (Nat.le_refl _) _
      have HZ := Lib.hid (HY.out.below hbb)
      have HRb : Hid (Rd (w1.alloc (.cells (u8s [x]) 5)) (.slice (some ⟨w1.heap.size, 0, none⟩) 1 1) [x]) := Lib.hid (rd_of_lit w1 [x] _ (by simp))
      clear hbb
      generalize w1.alloc (.cells (u8s [x]) 5) = w2 at HZ HRb ⊢
      generalize w1.heap.size = gs at HRb ⊢
      have HROW : Hid (w2.ownsRow w.heap.size 5 1 u5 (xs.take k).length (cellsB (xs.take k))) := Lib.hid (by rw [HLK.out]; exact HZ.out.row)
      refine wpList_appendB (by rfl) (.tmp 9) (.tmp 13) (by rfl) w.heap.size _ (xs.take k) (by rfl) HROW.out HZ.out.grw.size _ (by rfl) [x] HRb.out (by rw [HLK.out]; simp only [List.length_cons, List.length_nil]; omega) ?_
      intro v2 w3 ho hg
      have HN2 : Hid (NRel xs w0 w w3 i r v2 (k + 1)) := Lib.hid (by
        unfold NRel
        rw [HTK.out]
        have h := ho
        rw [List.length_append, HLK.out] at h
        exact HZ.out.app h hg)
      clear ho hg
      go_wp2
      go_roundw
      case rel => exact ⟨k + 1, by omega, by go_num, HN2⟩
      case measure => simp [intOf]; omega
    · obtain rfl : k = n := by omega
      go_wp2
      go_ret
      exact ⟨_, rfl, HR.out.row, HR.out.at_, HR.out.grw⟩
set_option maxRecDepth 100000 in
set_option maxHeartbeats 1000000 in
theorem onext_short (i r n : Nat) (aS : Addr) (xs : List Nat) (w0 w : World) (h : InAt w0 w i r xs) (hb : Oc.bytes xs) (hn : xs.length < n) (hz : n ≤ 1000000) (hS : w0.cell? ⟨3, 0, none⟩ = some (ev aS)) :
    Calls Tryz.prog 103 #[.pointer (some ⟨i, 0, none⟩), .int .i64 (n : Int)] w (Fails w r (ev aS)) := by
  have HX : Hid (NRel xs w0 w w i r nilV 0) := Lib.hid (NX.start h)
  have HB := Lib.hid hb
  have HN := Lib.hid hn
  have HS := Lib.hid hS
  clear h hb hn hS
  go_enter Tryz.func103, Tryz.ntmps103
  go_wp2
  go_loopw [5, 7] (fun v j wr => ∃ k : Nat, k ≤ xs.length ∧ j = .int .i64 k ∧ Hid (NRel xs w0 w wr i r v k)) (fun _ j _ => n - (intOf j).toNat)
  case atStart => exact ⟨0, Nat.zero_le _, rfl, HX⟩
  case round =>
    obtain ⟨k, hk, rfl, HR⟩ := hrel
    have i1 : ((k : Nat) : Int) < n := by have := HN.out; omega
    have i2 : (0 : Int) ≤ ((k : Nat) : Int) := by omega
    have i3 : ((k : Nat) : Int) < 1000000 := by omega
    by_cases hlt : k < xs.length
    · have HA := HR.out.at_
      rw [drop_at hlt] at HA
      have HC := Lib.hid (show Oc.bytes (xs.getD k 0 :: xs.drop (k + 1)) from by rw [← drop_at hlt]; exact Oc.bytes_drop HB.out k)
      have HTK := Lib.hid (take_at hlt)
      have HLK := Lib.hid (show (xs.take k).length = k from by rw [List.length_take]; omega)
      have HRd : Hid (NX w0 w wr i r u5 k (xs.take k) (xs.drop k)) := Lib.hid HR.out
      have HK1 := Lib.hid (show k + 1 ≤ xs.length from hlt)
      generalize xs.getD k 0 = x at HA HC HTK
      have CN := ibyte_ok i r x (xs.drop (k + 1)) w0 wr HA HC.out
      have q1 := small_conv x (HC.out x (List.mem_cons_self ..))
      clear HA hlt hk
      go_wp2_with (first
        | (go_at_call 59; refine CN.mono ?_; rintro e w1 ⟨rfl, hi, hg⟩; have HY := Lib.hid (HRd.out.read hg hi); clear hi hg)
        | (with_reducible (show wpList _ _ _ (Oper.mk _ (Op.call (Call.mk (Callee.builtin Builtin.append) _ _)) _ _ _ _ :: _) _ _); refine pause ?_))
      unfold Paused
      change wpList _ _ _ _ _ (w1.alloc (.cells (u8s [x]) 5))
      have hbb : Below w1.heap.size w1 (w1.alloc (.cells (u8s [x]) 5)) := (Below.refl _ _).alloc (Nat.le_refl _) _
      have HZ := Lib.hid (HY.out.below hbb)
      have HRb : Hid (Rd (w1.alloc (.cells (u8s [x]) 5)) (.slice (some ⟨w1.heap.size, 0, none⟩) 1 1) [x]) := Lib.hid (rd_of_lit w1 [x] _ (by simp))
      clear hbb
      generalize w1.alloc (.cells (u8s [x]) 5) = w2 at HZ HRb ⊢
      generalize w1.heap.size = gs at HRb ⊢
      have HROW : Hid (w2.ownsRow w.heap.size 5 1 u5 (xs.take k).length (cellsB (xs.take k))) := Lib.hid (by rw [HLK.out]; exact HZ.out.row)
      refine wpList_appendB (by rfl) (.tmp 9) (.tmp 13) (by rfl) w.heap.size _ (xs.take k) (by rfl) HROW.out HZ.out.grw.size _ (by rfl) [x] HRb.out (by rw [HLK.out]; simp only [List.length_cons, List.length_nil]; omega) ?_
      intro v2 w3 ho hg
      have HN2 : Hid (NRel xs w0 w w3 i r v2 (k + 1)) := Lib.hid (by
        unfold NRel
        rw [HTK.out]
        have h := ho
        rw [List.length_append, HLK.out] at h
        exact HZ.out.app h hg)
      clear ho hg
      go_wp2
      go_roundw
      case rel => exact ⟨k + 1, HK1.out, by go_num, HN2⟩
      case measure => simp [intOf]; omega
    · have HA := HR.out.at_
      rw [List.drop_of_length_le (by omega)] at HA
      have CN := ibyte_short i r aS w0 wr HA HS.out
      clear HA
      go_wp2_with (go_at_call 59; refine CN.mono ?_; rintro e w1 ⟨rfl, hd, hg⟩)
      exact ⟨rfl, rfl, hd, only_trans HR.out.grw hg⟩
end Go.Proofs.YtjkneidoochfjaaGreatDoor
