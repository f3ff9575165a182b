/- The walk of sha.Sort: digests rising, each once. -/
import Derived.Test.YtlodalppnglclaaDoorMCompact
import Derived.Test.YtlodalppnglclaaDoorMTextss
import Derived.Test.YtlodalppnglclaaDoorMShaMsgMaths
import Derived.Shelf.SlSortCmp.WholeK
namespace Go.Proofs.YtlodalppnglclaaDoor
section
open Go Go.Shelf
def sortOid_ren : Go.Shelf.Ren := ⟨fun | 6 => 56 | 15 => 68 | 14 => 67 | 28 => 87 | 29 => 88 | 20 => 79 | 21 => 80 | 22 => 81 | 23 => 82 | 24 => 83 | 25 => 84 | 26 => 85 | 27 => 86 | 46 => 96 | 47 => 97 | 48 => 98 | 49 => 99 | 50 => 100 | 57 => 102 | n => n, fun | 22 => 23 | 24 => 37 | 25 => 110 | 3 => 3 | 39 => 38 | 0 => 0 | 53 => 92 | 55 => 95 | 4 => 4 | 46 => 136 | 45 => 135 | 50 => 140 | 5 => 5 | 9 => 9 | 66 => 151 | 70 => 155 | 76 => 157 | 77 => 147 | n => n, fun | n => n⟩
theorem sortOid : Go.Proofs.SlLaysF0.n6 Tryd.prog sortOid_ren := {
  mixed := by kernel_rfl
  f6 := ⟨Tryd.f56.name, by decide, Tryd.func56.trans (congrArg some (by kernel_rfl))⟩
  f14 := ⟨Tryd.f67.name, by decide, Tryd.func67.trans (congrArg some (by kernel_rfl))⟩
  f15 := Tryd.func68.trans (congrArg some (by kernel_rfl))
  f20 := ⟨Tryd.f79.name, by decide, Tryd.func79.trans (congrArg some (by kernel_rfl))⟩
  f21 := ⟨Tryd.f80.name, by decide, Tryd.func80.trans (congrArg some (by kernel_rfl))⟩
  f22 := ⟨Tryd.f81.name, by decide, Tryd.func81.trans (congrArg some (by kernel_rfl))⟩
  f23 := ⟨Tryd.f82.name, by decide, Tryd.func82.trans (congrArg some (by kernel_rfl))⟩
  f24 := ⟨Tryd.f83.name, by decide, Tryd.func83.trans (congrArg some (by kernel_rfl))⟩
  f25 := ⟨Tryd.f84.name, by decide, Tryd.func84.trans (congrArg some (by kernel_rfl))⟩
  f26 := ⟨Tryd.f85.name, by decide, Tryd.func85.trans (congrArg some (by kernel_rfl))⟩
  f27 := ⟨Tryd.f86.name, by decide, Tryd.func86.trans (congrArg some (by kernel_rfl))⟩
  f28 := Tryd.func87.trans (congrArg some (by kernel_rfl))
  f29 := Tryd.func88.trans (congrArg some (by kernel_rfl))
  f46 := ⟨Tryd.f96.name, by decide, Tryd.func96.trans (congrArg some (by kernel_rfl))⟩
  f47 := Tryd.func97.trans (congrArg some (by kernel_rfl))
  f48 := Tryd.func98.trans (congrArg some (by kernel_rfl))
  f49 := ⟨Tryd.f99.name, by decide, Tryd.func99.trans (congrArg some (by kernel_rfl))⟩
  f50 := ⟨Tryd.f100.name, by decide, Tryd.func100.trans (congrArg some (by kernel_rfl))⟩
  f57 := ⟨Tryd.f102.name, by decide, Tryd.func102.trans (congrArg some (by kernel_rfl))⟩
  t0 := Tryd.underlying0
  a0 := Tryd.isAgg0
  z0 := Tryd.sizeOf0
  v0 := Tryd.zeroValue0
  t3 := Tryd.underlying3
  a3 := Tryd.isAgg3
  z3 := Tryd.sizeOf3
  v3 := Tryd.zeroValue3
  t4 := Tryd.underlying4
  a4 := Tryd.isAgg4
  z4 := Tryd.sizeOf4
  v4 := Tryd.zeroValue4
  t5 := Tryd.underlying5
  a5 := Tryd.isAgg5
  z5 := Tryd.sizeOf5
  v5 := Tryd.zeroValue5
  t9 := Tryd.underlying9
  a9 := Tryd.isAgg9
  z9 := Tryd.sizeOf9
  v9 := Tryd.zeroValue9
  t22 := Tryd.underlying23
  a22 := Tryd.isAgg23
  z22 := Tryd.sizeOf23
  v22 := Tryd.zeroValue23
  t25 := Tryd.underlying110
  a25 := Tryd.isAgg110
  z25 := Tryd.sizeOf110
  v25 := Tryd.zeroValue110
  t39 := Tryd.underlying38
  a39 := Tryd.isAgg38
  z39 := Tryd.sizeOf38
  v39 := Tryd.zeroValue38
  t45 := Tryd.underlying135
  a45 := Tryd.isAgg135
  z45 := Tryd.sizeOf135
  v45 := Tryd.zeroValue135
  t46 := Tryd.underlying136
  a46 := Tryd.isAgg136
  z46 := Tryd.sizeOf136
  v46 := Tryd.zeroValue136
  t50 := Tryd.underlying140
  a50 := Tryd.isAgg140
  z50 := Tryd.sizeOf140
  v50 := Tryd.zeroValue140
  t53 := Tryd.underlying92
  a53 := Tryd.isAgg92
  z53 := Tryd.sizeOf92
  v53 := Tryd.zeroValue92
  t55 := Tryd.underlying95
  a55 := Tryd.isAgg95
  z55 := Tryd.sizeOf95
  v55 := Tryd.zeroValue95
  t66 := Tryd.underlying151
  a66 := Tryd.isAgg151
  z66 := Tryd.sizeOf151
  v66 := Tryd.zeroValue151
  t70 := Tryd.underlying155
  a70 := Tryd.isAgg155
  z70 := Tryd.sizeOf155
  v70 := Tryd.zeroValue155
  t76 := Tryd.underlying157
  a76 := Tryd.isAgg157
  z76 := Tryd.sizeOf157
  v76 := Tryd.zeroValue157
  t77 := Tryd.underlying147
  a77 := Tryd.isAgg147
  z77 := Tryd.sizeOf147
  v77 := Tryd.zeroValue147 }

end
open Go Go.RowKit Go.Sort
/-- a digest -/
structure OidT where
  val : List Nat
  property : val.length = 32 ∧ Sha.Byte val
instance : Inhabited OidT := ⟨⟨List.replicate 32 0, by simp, Sha.Byte.zeros 32⟩⟩
def encO (x : OidT) : List Value := cellsN x.val
theorem encO_len (x : OidT) : (encO x).length = 32 := by rw [encO, cellsN_len]; exact x.property.1
def cfO (x y : OidT) : Int := Sha.cmpN x.val y.val
theorem swoO : Sort.SWO (ltOf cfO) where
  irrefl x := by simp [ltOf, cfO, Sha.cmpN_self]
  trans x y z h1 h2 := decide_eq_true (Sha.cmpN_trans _ _ _ (of_decide_eq_true h1) (of_decide_eq_true h2))
  ntrans x y z h1 h2 := by
    have n1 : ¬ Sha.cmpN x.val y.val < 0 := of_decide_eq_false h1
    have n2 : ¬ Sha.cmpN y.val z.val < 0 := of_decide_eq_false h2
    refine decide_eq_false (fun h => ?_)
    have h : Sha.cmpN x.val z.val < 0 := h
    have a1 := Sha.cmpN_anti x.val y.val
    rcases Sha.cmpN_cases x.val y.val with e1 | e1 | e1
    · omega
    · rw [Sha.cmpN_zero _ _ e1] at h; exact n2 h
    · exact n2 (Sha.cmpN_trans _ _ _ (show Sha.cmpN y.val x.val < 0 by omega) h)
/-- the comparison, with the world told to the block -/
theorem ccompare_grow (x y : OidT) (w : World) :
    Calls Tryd.prog 57 #[.agg (encO x).toArray, .agg (encO y).toArray] w fun e w' => e = .returned (.int .i64 (cfO x y)) ∧ ∃ q os', w' = grow (w.drewN q) os' := by
  obtain ⟨xs, hx, hb⟩ := x
  obtain ⟨ys, hy, hb'⟩ := y
  show Calls Tryd.prog 57 #[.agg (u8s xs), .agg (u8s ys)] w fun e w' => e = .returned (.int .i64 (Sha.cmpN xs ys)) ∧ ∃ q os', w' = grow (w.drewN q) os'
  go_enter Tryd.func57, Tryd.ntmps57
  have HX : Hid (Blk ((w.alloc (.cells (u8s xs) 37)).alloc (.cells (u8s ys) 37)) w.heap.size 37 (u8s xs)) := Lib.hid ((Blk.new w _ _).alloc _)
  have HY : Hid (Blk ((w.alloc (.cells (u8s xs) 37)).alloc (.cells (u8s ys) 37)) (w.heap.size + 1) 37 (u8s ys)) := by
    have h := Blk.new (w.alloc (.cells (u8s xs) 37)) 37 (u8s ys)
    have e : (w.alloc (.cells (u8s xs) 37)).heap.size = w.heap.size + 1 := by simp
    rw [e] at h
    exact Lib.hid h
  have HG : Hid (((w.alloc (.cells (u8s xs) 37)).alloc (.cells (u8s ys) 37)) = grow w (#[.cells (u8s xs) 37] ++ #[.cells (u8s ys) 37])) := Lib.hid (by rw [alloc_eq_grow, alloc_eq_grow, grow_grow])
  go_wp2_with fail
  generalize ((w.alloc (.cells (u8s xs) 37)).alloc (.cells (u8s ys) 37)) = wr at HX HY HG ⊢
  go_quiet ((go_at_call 69; exact Calls.quiet_of_same (bcompare_any (HX.out.drewN _) hb (HY.out.drewN _) hb' _ _ _ _ hx hy)))
  go_wp2
  go_ret
  exact ⟨rfl, _, _, by rw [HG.out]; rfl⟩
theorem cmpLaysO (b size : Nat) (w : World) : CmpLays Tryd.prog 57 #[] encO 32 cfO b 0 size w := fun _ _ _ _ x y => by
  have h := ccompare_grow x y
  exact h _
def toT (x : List Nat) : OidT := if h : x.length = 32 ∧ (∀ i : Fin 32, x.getD i.val 0 < 256) then ⟨x, h.1, fun i => by
    rcases Nat.lt_or_ge i 32 with hi | hi
    · exact h.2 ⟨i, hi⟩
    · simp [List.getD, List.getElem?_eq_none (show x.length ≤ i by omega)]⟩ else default
theorem toT_val {x : List Nat} (h : x.length = 32 ∧ Sha.Byte x) : (toT x).val = x := by
  unfold toT; rw [dif_pos ⟨h.1, fun i => h.2 i.val⟩]
theorem toT_map {l : List (List Nat)} (h : Sha.Oids l) : (l.map toT).map (·.val) = l := by
  rw [List.map_map]
  have e : ∀ x ∈ l, ((fun y : OidT => y.val) ∘ toT) x = x := fun x hx => toT_val (h x hx)
  rw [List.map_congr_left e]; simp
theorem getD_toT {l : List (List Nat)} (h : Sha.Oids l) {i : Nat} (hi : i < l.length) : ((l.map toT).toArray[i]!).val = l.getD i [] := by
  have h2 := h.getD hi
  rw [getElem!_pos _ i (by simpa using hi)]
  simp only [List.getElem_toArray, List.getElem_map]
  have e : l.getD i [] = l[i] := by simp [List.getD, hi]
  rw [e] at h2 ⊢
  exact toT_val h2
theorem holds_of_row {w : World} {b : Nat} {l : List (List Nat)} (h : Sha.Oids l) (hr : OidRow w b l) : HoldsK encO 32 w b 0 (l.map toT).toArray := by
  intro t ht
  rw [size_flatK] at ht
  have hsz : (l.map toT).toArray.size = l.length := by simp
  rw [hsz] at ht
  rw [get_flatK encO 32 _ t (by rw [hsz]; exact ht)]
  have hi : t / 32 < l.length := by omega
  have e1 : encO ((l.map toT).toArray[t / 32]!) = cellsN (l.getD (t / 32) []) := by unfold encO; rw [getD_toT h hi]
  rw [e1]
  have hlen := (h.getD hi).1
  have hc := hr.at_ (t / 32) hi (t % 32) ((cellsN (l.getD (t / 32) []))[t % 32]!) (by
    have hj : t % 32 < (cellsN (l.getD (t / 32) [])).length := by rw [cellsN_len, hlen]; omega
    rw [getElem!_pos (cellsN (l.getD (t / 32) [])) (t % 32) hj, List.getElem?_eq_getElem hj])
  have e2 : 32 * (t / 32) + t % 32 = t := by omega
  rw [e2] at hc
  refine ⟨by rw [Nat.zero_add]; exact hc, ?_⟩
  have := (hr.room t (by omega)).2
  exact this
theorem row_of_holds {w : World} {b : Nat} {d : Array OidT} (h : HoldsK encO 32 w b 0 d) : OidRow w b (d.toList.map (·.val)) := by
  have hg : ∀ i, i < d.size → (d.toList.map (·.val)).getD i [] = (d[i]!).val := fun i hi => by
    rw [getElem!_pos d i hi]; simp [List.getD, hi]
  refine ⟨fun i hi j v hv => ?_, fun j hj => ?_⟩
  · have hi' : i < d.size := by simpa using hi
    rw [hg i hi'] at hv
    have hj : j < (cellsN (d[i]!).val).length := (List.getElem?_eq_some_iff.1 hv).1
    have hj32 : j < 32 := by rw [cellsN_len, (d[i]!).property.1] at hj; exact hj
    have hc := (h.cell hi' hj32).1
    rw [Nat.zero_add, Nat.mul_comm i 32] at hc
    rw [hc]
    unfold encO
    rw [getElem!_pos (cellsN (d[i]!).val) j hj, ← hv, List.getElem?_eq_getElem hj]
  · have hj' : j < 32 * d.size := by simpa using hj
    have hc := h.cell (i := j / 32) (c := j % 32) (by omega) (by omega)
    have e : 0 + j / 32 * 32 + j % 32 = 0 + j := by omega
    rw [e] at hc
    exact ⟨by rw [hc.1]; rfl, hc.2⟩
theorem grownBy_sortedK {w : World} {g n : Nat} {os : Array Obj} (d : Array OidT) : w.grownBy (sortWorldK encO 32 w g 0 n d os) (some g) := by
  refine ⟨rfl, rfl, rfl, by simp [sortWorldK, putRowK, Sort.ahead, grow], fun k hk hne => ?_⟩
  unfold sortWorldK
  rw [heap_grow_old _ _ (by simpa [putRowK, Sort.ahead] using hk)]
  have : g ≠ k := fun e => hne (by rw [e])
  simp [putRowK, putRow, mapBlock, Sort.ahead, Array.getElem?_modify, this]
/-- A slice of digests that came in. -/
def RdO (w : World) (v : Value) (l : List (List Nat)) : Prop :=
  ∃ A c, v = .slice A l.length c ∧ l.length ≤ c ∧ (0 < l.length → ∃ b o, A = some ⟨b, o, none⟩ ∧ b < w.heap.size ∧ ∀ i, i < l.length → w.rangeAt b (o + 32 * i) (cellsN (l.getD i [])))
theorem run_copy_none_k {P : Program} (w : World) (dT sT ty elem : TypeId) (d a : Option Addr) (k dLen dCap sLen sCap : Nat) (hu : P.underlying dT = some (.slice elem)) (hs : (P.info? elem).map (·.size) = some k) (hn : Nat.min sLen dLen = 0) :
    (Builtin.copy_ #[dT, sT] ty #[.slice d dLen dCap, .slice a sLen sCap]).run P w = .ok (goInt 0) w := by
  cases hq : P.info? elem with
  | none => simp [hq] at hs
  | some i =>
    have hl : ∀ (x : Addr), (loadCells x 0).run P w = .ok #[] w := fun x => by simpa using run_loadCells_list (P := P) w x [] (by simp)
    cases d <;> cases a <;> simp [Builtin.copy_, run_underlying hu, Builtin.lenOf, Builtin.firstCells, sizeOf, typeInfo, hq, hn, storeCells, hl]
theorem getD_cells (l : List (List Nat)) (h : Sha.Oids l) {i j : Nat} (hi : i < l.length) (hj : j < 32) : (cellsN l.flatten)[32 * i + j]? = (cellsN (l.getD i []))[j]? := by
  have h1 := Sha.flat_getD h hi hj
  have hl := (h.getD hi).1
  have hf := Sha.flat_len h
  unfold cellsN
  rw [List.getElem?_map, List.getElem?_map, List.getElem?_eq_getElem (by omega), List.getElem?_eq_getElem (by omega)]
  rw [List.getD, List.getElem?_eq_getElem (show 32 * i + j < l.flatten.length by omega), Option.getD_some] at h1
  rw [h1]
  have e : (l.getD i []).getD j 0 = (l.getD i [])[j] := by rw [List.getD, List.getElem?_eq_getElem (by omega)]; rfl
  rw [e]
/-- the new block, with the digests copied into it -/
theorem copied (w : World) (l : List (List Nat)) (h : Sha.Oids l) (made : Array Value) (hm : made.size = 32 * l.length) :
    OidRow ((w.alloc (.cells made 37)).setCells w.heap.size 0 (cellsN l.flatten)) w.heap.size l := by
  have hb : Blk (w.alloc (.cells made 37)) w.heap.size 37 made := Blk.new w _ _
  have ht : (w.alloc (.cells made 37)).there w.heap.size 0 (32 * l.length) := fun j hj => by
    rw [Nat.zero_add]
    refine ⟨?_, hb.frozen j⟩
    rw [hb.cell j, Array.getElem?_eq_getElem (by omega)]; rfl
  have hfl : (cellsN l.flatten).length = 32 * l.length := by rw [cellsN_len, Sha.flat_len h]
  have hs := World.rangeAt_setCells_same (w.alloc (.cells made 37)) w.heap.size 0 (cellsN l.flatten) (by rw [hfl]; exact ht)
  refine ⟨fun i hi j v hv => ?_, World.there_setCells ht _ _ _⟩
  have hj : j < (cellsN (l.getD i [])).length := (List.getElem?_eq_some_iff.1 hv).1
  rw [cellsN_len, (h.getD hi).1] at hj
  have := hs (32 * i + j) v (by rw [getD_cells l h hi hj]; exact hv)
  rwa [Nat.zero_add] at this
theorem oid_all : (Tryd.prog.info? 37).map (fun i => (i.zero, i.size, i.bytes)) = some (some (.agg (u8s (List.replicate 32 0))), 32, 32) := by kernel_rfl
/-- what sha.Sort hands back -/
structure Sorted (w0 : World) (l : List (List Nat)) (r : List (List Nat)) (e : Ending) (w' : World) : Prop where
  val : ∃ b c, e = .returned (.slice (some ⟨b, 0, none⟩) r.length c) ∧ r.length ≤ c ∧ (0 < r.length → b < w'.heap.size) ∧ ∀ i, i < r.length → w'.rangeAt b (32 * i) (cellsN (r.getD i []))
  oids : Sha.Oids r
  mem : ∀ x, x ∈ r ↔ x ∈ l
  rise : Sha.Rising r
  bel : Below w0.heap.size w0 w'
theorem sort_contract (b : Nat) (l : List (List Nat)) (w : World) (hl : Sha.Oids l) (hr : OidRow w b l) (hb : b < w.heap.size) (hz : l.length < 1073741824) :
    Calls Tryd.prog 56 #[.slice (some ⟨b, 0, none⟩) l.length l.length, .func (.func 57) #[] #[]] w fun e w' =>
      e = .returned (.tuple #[]) ∧ ∃ l', l'.length = l.length ∧ Sha.Oids l' ∧ Sha.Asc l' ∧ (∀ x, x ∈ l' ↔ x ∈ l) ∧ OidRow w' b l' ∧ w.grownBy w' (some b) := by
  have eg : ∀ args w, (callFunc 57 args).run Tryd.prog w = .ok (.enter 57 args) w := enters_of Tryd.func57 (by kernel_rfl) rfl
  have hsz : (l.map toT).toArray.size = l.length := by simp
  have hH := holds_of_row hl hr
  have hcon := AnyQ.slices_SortFunc sortOid 32 Tryd.isAgg37 Tryd.sizeOf37 encO encO_len (fun x v hv => cellsN_one _ v hv) cfO swoO 57 #[] b 0 l.length (l.map toT).toArray w eg (cmpLaysO b _ w) hH hb (by rw [hsz]; omega)
  rw [hsz] at hcon
  change Calls Tryd.prog 56 _ _ _ at hcon
  refine hcon.mono ?_
  rintro e w' ⟨he, d', n, os, hp, hs, rfl⟩
  obtain ⟨hps, _, hpp⟩ := hp
  rw [hsz] at hps
  have e1 : d'.extract 0 l.length = d' := by rw [← hps]; simp
  have e2 : (l.map toT).toArray.extract 0 l.length = (l.map toT).toArray := by
    apply Array.ext'
    simp [List.take_of_length_le]
  rw [e1, e2] at hpp
  have hperm : (d'.toList.map (·.val)).Perm l := by
    have h := hpp.map (fun y : OidT => y.val)
    rwa [show (l.map toT).toArray.toList = l.map toT from rfl, toT_map hl] at h
  have hg : ∀ i, i < d'.size → (d'.toList.map (·.val)).getD i [] = (d'[i]!).val := fun i hi => by
    rw [getElem!_pos d' i hi]; simp [List.getD, hi]
  refine ⟨he, d'.toList.map (·.val), by simpa using hps, fun o ho => hl o (hperm.mem_iff.1 ho), ?_, fun x => hperm.mem_iff, ?_, grownBy_sortedK d'⟩
  · intro i j hij hj
    rw [List.length_map, Array.length_toList] at hj
    rw [hg j hj, hg i (by omega)]
    exact of_decide_eq_false (hs i j (Nat.zero_le _) hij (by omega))
  · refine row_of_holds ?_
    unfold sortWorldK
    exact holdsK_grow encO 32 _ os b 0 d' (by simpa [putRowK, Sort.ahead] using hb) (holdsK_putRowK encO 32 _ b 0 (l.map toT).toArray d' hH (by rw [hsz, hps]))
set_option maxRecDepth 100000 in
theorem sort_any (v : Value) (l : List (List Nat)) (w : World) (hv : RdO w v l) (hl : Sha.Oids l) (hz : l.length < 1073741824) :
    Calls Tryd.prog 41 #[v] w fun e w' => ∃ r, Sorted w l r e w' := by
  obtain ⟨A, c, rfl, hc, hA⟩ := hv
  obtain ⟨i0, hi0, hiz, his, hib⟩ := info_parts oid_all
  have hmk : ∀ w' : World, (Instr.makeSlice 23 (.int .i64 (l.length : Nat)) (.int .i64 (l.length : Nat))).run Tryd.prog w' = .ok (.slice (some ⟨w'.heap.size, 0, none⟩) l.length l.length) (w'.alloc (.cells (madeCells (Value.agg (u8s (List.replicate 32 0))).cells (l.length * 32)) 37)) := fun w' => by
    have h := run_make (P := Tryd.prog) w' 23 37 i0 _ Tryd.underlying23 hi0 hiz .i64 .i64 (l.length : Nat) (l.length : Nat) (by omega) (Int.le_refl _) (by rw [hib]; omega) (by omega)
    rw [Int.toNat_natCast, his] at h
    exact h
  obtain ⟨made, hmade⟩ : ∃ made, made = madeCells (Value.agg (u8s (List.replicate 32 0))).cells (l.length * 32) := ⟨_, rfl⟩
  rw [← hmade] at hmk
  have hms : made.size = 32 * l.length := by rw [hmade, size_madeCells, Nat.mul_comm]
  clear hmade
  have hcp : ∀ ty, (Builtin.copy_ #[23, 23] ty #[.slice (some ⟨w.heap.size, 0, none⟩) l.length l.length, .slice A l.length c]).run Tryd.prog (w.alloc (.cells made 37)) = .ok (goInt l.length) ((w.alloc (.cells made 37)).setCells w.heap.size 0 (cellsN l.flatten)) := fun ty => by
    rcases Nat.eq_zero_or_pos l.length with h0 | h0
    · have e : l = [] := List.eq_nil_of_length_eq_zero h0
      subst e
      exact run_copy_none_k _ _ _ ty 37 _ _ 32 0 0 0 c Tryd.underlying23 oid_info' rfl
    · obtain ⟨b, o, rfl, hb, hx⟩ := hA h0
      have hfl : (cellsN l.flatten).length = 32 * l.length := by rw [cellsN_len, Sha.flat_len hl]
      refine run_copy_k _ _ _ ty 37 32 l.length w.heap.size 0 l.length ⟨b, o, none⟩ c (cellsN l.flatten) Tryd.underlying23 oid_info' (by rw [hfl, Nat.mul_comm]) ?_ ?_ (cellsN_one _)
      · intro j v hj
        have hjl : j < 32 * l.length := by have := (List.getElem?_eq_some_iff.1 hj).1; omega
        have e : 32 * (j / 32) + j % 32 = j := by omega
        have hg := getD_cells l hl (i := j / 32) (j := j % 32) (by omega) (by omega)
        rw [e, hj] at hg
        have hh := hx (j / 32) (by omega) (j % 32) v hg.symm
        rw [Addr.add_mid, ← e, ← Nat.add_assoc, World.cell?_alloc_past _ _ _ hb]
        exact hh
      · intro j hj
        rw [hfl] at hj
        have hB : Blk (w.alloc (.cells made 37)) w.heap.size 37 made := Blk.new w _ _
        rw [Nat.zero_add]
        exact ⟨by rw [hB.cell j, Array.getElem?_eq_getElem (by omega)]; rfl, hB.frozen j⟩
  have HROW := Lib.hid (copied w l hl made hms)
  have HBEL : Hid (Below w.heap.size w ((w.alloc (.cells made 37)).setCells w.heap.size 0 (cellsN l.flatten))) := Lib.hid (below_setCells (Nat.le_refl _) _ _ _ ((Below.refl _ _).alloc (Nat.le_refl _) _))
  have HLT : Hid (w.heap.size < ((w.alloc (.cells made 37)).setCells w.heap.size 0 (cellsN l.flatten)).heap.size) := by
    have h : ∀ (vs : List Value) (b o : Nat) (w : World), (w.setCells b o vs).heap.size = w.heap.size := by
      intro vs
      induction vs with
      | nil => intros; rfl
      | cons v r ih => intro b o w; rw [World.setCells, ih]; simp [World.setCell]
    exact Lib.hid (by rw [h]; simp)
  clear hA
  go_enter Tryd.func41, Tryd.ntmps41
  go_wp2_with fail
  clear hmk hcp
  generalize ((w.alloc (.cells made 37)).setCells w.heap.size 0 (cellsN l.flatten)) = w2 at HROW HBEL HLT ⊢
  refine (sort_contract w.heap.size l w2 hl HROW.out HLT.out hz).mono ?_
  rintro e w3 ⟨rfl, l', hlen, hol, hasc, hmem, hrow, hgr⟩
  have HLEN := Lib.hid hlen
  have HMEM := Lib.hid hmem
  have HASC := Lib.hid hasc
  have HROW3 := Lib.hid hrow
  have HOL := Lib.hid hol
  have HB3 := Lib.hid (below_of_only HBEL.out hgr (Nat.le_refl _))
  have HL3 := Lib.hid (Nat.lt_of_lt_of_le HLT.out hgr.size)
  clear hlen hmem hasc hrow hgr hol
  go_wp2_with fail
  rw [← HLEN.out]
  refine (compact_any w.heap.size l'.length l' w w3 w.heap.size HOL.out (by rw [HLEN.out]; omega) HROW3.out (Nat.le_refl _) (by rw [HLEN.out]; omega) (Nat.le_refl _) HB3.out).mono ?_
  rintro e w4 ⟨rfl, hkept⟩
  have HK := Lib.hid hkept
  clear hkept
  go_wp2_with fail
  go_ret
  refine ⟨Sha.compK l' l'.length, ⟨w.heap.size, l'.length, rfl, Sha.compK_len _ _, ?_, HK.out.row⟩, ?_, ?_, Sha.compK_rising l' HASC.out _ (Nat.le_refl _), HK.out.bel⟩
  · intro h0
    have h1 := HK.out.row 0 h0
    have h2 : ((Sha.compK l' l'.length).getD 0 []).length = 32 := (Sha.Oids.getD (l := Sha.compK l' l'.length) (fun o ho => HOL.out o (List.mem_of_mem_take ((Sha.compK_mem l' _ (Nat.le_refl _) o).1 ho))) h0).1
    have h3 := h1 0 ((cellsN ((Sha.compK l' l'.length).getD 0 []))[0]'(by rw [cellsN_len, h2]; omega)) (List.getElem?_eq_getElem _)
    exact block_lt_of_cell h3
  · intro o ho
    exact HOL.out o (List.mem_of_mem_take ((Sha.compK_mem l' _ (Nat.le_refl _) o).1 ho))
  · intro x
    rw [Sha.compK_mem l' _ (Nat.le_refl _) x, List.take_length]
    exact HMEM.out x
end Go.Proofs.YtlodalppnglclaaDoor
