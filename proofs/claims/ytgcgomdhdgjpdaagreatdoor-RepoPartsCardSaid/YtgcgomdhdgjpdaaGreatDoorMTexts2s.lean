/- The walks of sha.Unhex of another length, of the order of digests and their first bytes, and of the reference's Hex, Unhex, Less. -/
import Derived.Test.YtgcgomdhdgjpdaaGreatDoorMCompacts
import Derived.Lib.BytesEntry
import Derived.Test.YtgcgomdhdgjpdaaGreatDoorMBases
import Derived.Shelf.SlSortCmp.WholeK
namespace Go.Proofs.YtgcgomdhdgjpdaaGreatDoor
open Go Go.RowKit
theorem rd_bytes {w : World} {g : Nat} {t : TypeId} {xs : List Nat} (h : Blk w g t (u8s xs)) :
  ∀ j x, (xs.map Int.ofNat)[j]? = some x → w.cell? ((⟨g, 0, none⟩ : Addr).add j) = some (.int .u8 x) := by
 intro j x hx
 rw [List.getElem?_map] at hx
 obtain ⟨n, hn, rfl⟩ := Option.map_eq_some_iff.1 hx
 have hj := (List.getElem?_eq_some_iff.1 hn).1
 have e : ((⟨g, 0, none⟩ : Addr).add j) = ⟨g, j, none⟩ := by
  unfold Addr.add
  split
  ·next h0 => rw [h0]
  ·simp
 rw [e, h.cell j, u8s_get _ _ hj]
 simp [List.getD, hn]
theorem run_loadAll {P : Program} {w : World} {g : Nat} {t : TypeId} {xs : List Nat} (h : Blk w g t (u8s xs)) (n c : Nat) (hn : xs.length = n) :
  (Extern.Bytes.bytesOf (.slice (some ⟨g, 0, none⟩) n c)).run P w = .ok ⟨(xs.map UInt8.ofNat).toArray⟩ w := by
 have e := Lib.run_loadBytesX (P := P) w (xs.map Int.ofNat) ⟨g, 0, none⟩ .empty (rd_bytes h)
 rw [List.length_map, hn] at e
 show (Extern.Bytes.loadBytes ⟨g, 0, none⟩ n .empty).run P w = _
 rw [e]
 simp [ByteArray.empty, ByteArray.emptyWithCapacity, Lib.bytesOf, Function.comp_def]
 rfl
theorem compareBytes_cmpN : ∀ (a b : List Nat), (∀ x ∈ a, x < 256) → (∀ x ∈ b, x < 256) → Lib.compareBytes (a.map UInt8.ofNat) (b.map UInt8.ofNat) = Sha.cmpN a b
 | [], [], _, _ => rfl
 | [], _ :: _, _, _ => rfl
 | _ :: _, [], _, _ => rfl
 | x :: a, y :: b, ha, hb => by
  have hx := ha x (List.mem_cons_self)
  have hy := hb y (List.mem_cons_self)
  have ih := compareBytes_cmpN a b (fun z hz => ha z (List.mem_cons_of_mem _ hz)) (fun z hz => hb z (List.mem_cons_of_mem _ hz))
  have e1 : (UInt8.ofNat x < UInt8.ofNat y) ↔ x < y := by rw [UInt8.lt_iff_toNat_lt]; simp [Nat.mod_eq_of_lt hx, Nat.mod_eq_of_lt hy]
  have e2 : (UInt8.ofNat y < UInt8.ofNat x) ↔ y < x := by rw [UInt8.lt_iff_toNat_lt]; simp [Nat.mod_eq_of_lt hx, Nat.mod_eq_of_lt hy]
  simp only [List.map_cons, Lib.compareBytes, Sha.cmpN, e1, e2, ih]
theorem Byte.mem {xs : List Nat} (h : Sha.Byte xs) : ∀ x ∈ xs, x < 256 := fun x hx => by
 obtain ⟨i, hi, rfl⟩ := List.mem_iff_getElem.1 hx
 have := h i
 simpa [List.getD, hi] using this
theorem run_cmp {P : Program} {w : World} {g g' : Nat} {t t' : TypeId} {xs ys : List Nat} (h : Blk w g t (u8s xs)) (hb : Sha.Byte xs) (h' : Blk w g' t' (u8s ys)) (hb' : Sha.Byte ys) (n c n' c' : Nat) (hn : xs.length = n) (hn' : ys.length = n') :
  (Extern.BytealgCompare.compare #[.slice (some ⟨g, 0, none⟩) n c, .slice (some ⟨g', 0, none⟩) n' c']).run P w = .ok (.int .i64 (Sha.cmpN xs ys)) w := by
 change Sem.run P (do pure (goInt (Extern.BytealgCompare.cmp (← Extern.Bytes.bytesOf (.slice (some ⟨g, 0, none⟩) n c)) (← Extern.Bytes.bytesOf (.slice (some ⟨g', 0, none⟩) n' c'))))) w = _
 simp only [Sem.run_bind, Sem.run_pure, run_loadAll h n c hn, run_loadAll h' n' c' hn', Result.andThen]
 rw [Lib.cmp_eq, ← compareBytes_cmpN xs ys (Byte.mem hb) (Byte.mem hb')]
 rfl
theorem bcompare_any {w : World} {g g' : Nat} {t t' : TypeId} {xs ys : List Nat} (h : Blk w g t (u8s xs)) (hb : Sha.Byte xs) (h' : Blk w g' t' (u8s ys)) (hb' : Sha.Byte ys) (n c n' c' : Nat) (hn : xs.length = n) (hn' : ys.length = n') :
  Calls Tryz.prog 98 #[.slice (some ⟨g, 0, none⟩) n c, .slice (some ⟨g', 0, none⟩) n' c'] w fun e w' => e = .returned (.int .i64 (Sha.cmpN xs ys)) ∧ w' = w := by
 have hx := @run_callFunc_extern Tryz.prog 130 _ Extern.BytealgCompare.compare Tryz.func130 (by kernel_rfl) (by kernel_rfl) (by kernel_rfl) (by kernel_rfl)
 have hr := run_cmp (P := Tryz.prog) h hb h' hb' n c n' c' hn hn'
 clear h hb h' hb' hn hn'
 go_enter Tryz.func98, Tryz.ntmps98
 go_wp2_with fail
 go_ret
 exact ⟨rfl, rfl⟩
end Go.Proofs.YtgcgomdhdgjpdaaGreatDoor
/- The walk of sha.Sort: digests rising, each once. -/
namespace Go.Proofs.YtgcgomdhdgjpdaaGreatDoor
section
open Go Go.Shelf
def sortOid_ren : Go.Shelf.Ren := ⟨fun | 6 => 66 | 15 => 65 | 14 => 97 | 28 => 95 | 29 => 96 | 20 => 122 | 21 => 123 | 22 => 124 | 23 => 125 | 24 => 126 | 25 => 127 | 26 => 128 | 27 => 129 | 46 => 148 | 47 => 117 | 48 => 118 | 49 => 149 | 50 => 150 | 57 => 174 | n => n, fun | 22 => 106 | 24 => 41 | 25 => 132 | 3 => 3 | 39 => 49 | 0 => 0 | 53 => 112 | 55 => 115 | 4 => 4 | 46 => 166 | 45 => 165 | 50 => 171 | 5 => 5 | 9 => 9 | 66 => 198 | 70 => 202 | 76 => 231 | 77 => 70 | n => n, fun | n => n⟩
theorem sortOid : Go.Proofs.SlLaysF0.n6 Tryz.prog sortOid_ren := {
 mixed := by kernel_rfl
 f6 := ⟨Tryz.f66.name, by decide, Tryz.func66.trans (congrArg some (by kernel_rfl))⟩
 f14 := ⟨Tryz.f97.name, by decide, Tryz.func97.trans (congrArg some (by kernel_rfl))⟩
 f15 := Tryz.func65.trans (congrArg some (by kernel_rfl))
 f20 := ⟨Tryz.f122.name, by decide, Tryz.func122.trans (congrArg some (by kernel_rfl))⟩
 f21 := ⟨Tryz.f123.name, by decide, Tryz.func123.trans (congrArg some (by kernel_rfl))⟩
 f22 := ⟨Tryz.f124.name, by decide, Tryz.func124.trans (congrArg some (by kernel_rfl))⟩
 f23 := ⟨Tryz.f125.name, by decide, Tryz.func125.trans (congrArg some (by kernel_rfl))⟩
 f24 := ⟨Tryz.f126.name, by decide, Tryz.func126.trans (congrArg some (by kernel_rfl))⟩
 f25 := ⟨Tryz.f127.name, by decide, Tryz.func127.trans (congrArg some (by kernel_rfl))⟩
 f26 := ⟨Tryz.f128.name, by decide, Tryz.func128.trans (congrArg some (by kernel_rfl))⟩
 f27 := ⟨Tryz.f129.name, by decide, Tryz.func129.trans (congrArg some (by kernel_rfl))⟩
 f28 := Tryz.func95.trans (congrArg some (by kernel_rfl))
 f29 := Tryz.func96.trans (congrArg some (by kernel_rfl))
 f46 := ⟨Tryz.f148.name, by decide, Tryz.func148.trans (congrArg some (by kernel_rfl))⟩
 f47 := Tryz.func117.trans (congrArg some (by kernel_rfl))
 f48 := Tryz.func118.trans (congrArg some (by kernel_rfl))
 f49 := ⟨Tryz.f149.name, by decide, Tryz.func149.trans (congrArg some (by kernel_rfl))⟩
 f50 := ⟨Tryz.f150.name, by decide, Tryz.func150.trans (congrArg some (by kernel_rfl))⟩
 f57 := ⟨Tryz.f174.name, by decide, Tryz.func174.trans (congrArg some (by kernel_rfl))⟩
 t0 := Tryz.underlying0
 a0 := Tryz.isAgg0
 z0 := Tryz.sizeOf0
 v0 := Tryz.zeroValue0
 t3 := Tryz.underlying3
 a3 := Tryz.isAgg3
 z3 := Tryz.sizeOf3
 v3 := Tryz.zeroValue3
 t4 := Tryz.underlying4
 a4 := Tryz.isAgg4
 z4 := Tryz.sizeOf4
 v4 := Tryz.zeroValue4
 t5 := Tryz.underlying5
 a5 := Tryz.isAgg5
 z5 := Tryz.sizeOf5
 v5 := Tryz.zeroValue5
 t9 := Tryz.underlying9
 a9 := Tryz.isAgg9
 z9 := Tryz.sizeOf9
 v9 := Tryz.zeroValue9
 t22 := Tryz.underlying106
 a22 := Tryz.isAgg106
 z22 := Tryz.sizeOf106
 v22 := Tryz.zeroValue106
 t25 := Tryz.underlying132
 a25 := Tryz.isAgg132
 z25 := Tryz.sizeOf132
 v25 := Tryz.zeroValue132
 t39 := Tryz.underlying49
 a39 := Tryz.isAgg49
 z39 := Tryz.sizeOf49
 v39 := Tryz.zeroValue49
 t45 := Tryz.underlying165
 a45 := Tryz.isAgg165
 z45 := Tryz.sizeOf165
 v45 := Tryz.zeroValue165
 t46 := Tryz.underlying166
 a46 := Tryz.isAgg166
 z46 := Tryz.sizeOf166
 v46 := Tryz.zeroValue166
 t50 := Tryz.underlying171
 a50 := Tryz.isAgg171
 z50 := Tryz.sizeOf171
 v50 := Tryz.zeroValue171
 t53 := Tryz.underlying112
 a53 := Tryz.isAgg112
 z53 := Tryz.sizeOf112
 v53 := Tryz.zeroValue112
 t55 := Tryz.underlying115
 a55 := Tryz.isAgg115
 z55 := Tryz.sizeOf115
 v55 := Tryz.zeroValue115
 t66 := Tryz.underlying198
 a66 := Tryz.isAgg198
 z66 := Tryz.sizeOf198
 v66 := Tryz.zeroValue198
 t70 := Tryz.underlying202
 a70 := Tryz.isAgg202
 z70 := Tryz.sizeOf202
 v70 := Tryz.zeroValue202
 t76 := Tryz.underlying231
 a76 := Tryz.isAgg231
 z76 := Tryz.sizeOf231
 v76 := Tryz.zeroValue231
 t77 := Tryz.underlying70
 a77 := Tryz.isAgg70
 z77 := Tryz.sizeOf70
 v77 := Tryz.zeroValue70 }
end
open Go Go.RowKit Go.Sort
structure OidT where
 val : List Nat
 property : val.length = 32 ∧ Sha.Byte val
instance : Inhabited OidT := ⟨⟨List.replicate 32 0, by simp, Sha.Byte.zeros 32⟩⟩
def encO (x : OidT) : List Value := cellsN x.val
theorem encO_len (x : OidT) : (encO x).length = 32 := by rw [encO, cellsN_len]; exact x.property.1
def cfO (x y : OidT) : Int := Sha.cmpN x.val y.val
theorem swoO : Sort.SWO (ltOf cfO) where
 irrefl x := by simp [ltOf, cfO, Sha.cmpN_self]
 trans x y z h1 h2 := decide_eq_true (Sha.cmpN_trans _ _ _ (of_decide_eq_true h1) (of_decide_eq_true h2))
 ntrans x y z h1 h2 := by
  have n1 : ¬ Sha.cmpN x.val y.val < 0 := of_decide_eq_false h1
  have n2 : ¬ Sha.cmpN y.val z.val < 0 := of_decide_eq_false h2
  refine decide_eq_false (fun h => ?_)
  have h : Sha.cmpN x.val z.val < 0 := h
  have a1 := Sha.cmpN_anti x.val y.val
  rcases Sha.cmpN_cases x.val y.val with e1 | e1 | e1
  ·omega
  ·rw [Sha.cmpN_zero _ _ e1] at h; exact n2 h
  ·exact n2 (Sha.cmpN_trans _ _ _ (show Sha.cmpN y.val x.val < 0 by omega) h)
theorem ccompare_grow (x y : OidT) (w : World) :
  Calls Tryz.prog 67 #[.agg (encO x).toArray, .agg (encO y).toArray] w fun e w' => e = .returned (.int .i64 (cfO x y)) ∧ ∃ q os', w' = grow (w.drewN q) os' := by
 obtain ⟨xs, hx, hb⟩ := x
 obtain ⟨ys, hy, hb'⟩ := y
 show Calls Tryz.prog 67 #[.agg (u8s xs), .agg (u8s ys)] w fun e w' => e = .returned (.int .i64 (Sha.cmpN xs ys)) ∧ ∃ q os', w' = grow (w.drewN q) os'
 go_enter Tryz.func67, Tryz.ntmps67
 have HX : Hid (Blk ((w.alloc (.cells (u8s xs) 41)).alloc (.cells (u8s ys) 41)) w.heap.size 41 (u8s xs)) := Lib.hid ((Blk.new w _ _).alloc _)
 have HY : Hid (Blk ((w.alloc (.cells (u8s xs) 41)).alloc (.cells (u8s ys) 41)) (w.heap.size + 1) 41 (u8s ys)) := by
  have h := Blk.new (w.alloc (.cells (u8s xs) 41)) 41 (u8s ys)
  have e : (w.alloc (.cells (u8s xs) 41)).heap.size = w.heap.size + 1 := by simp
  rw [e] at h
  exact Lib.hid h
 have HG : Hid (((w.alloc (.cells (u8s xs) 41)).alloc (.cells (u8s ys) 41)) = grow w (#[.cells (u8s xs) 41] ++ #[.cells (u8s ys) 41])) := Lib.hid (by rw [alloc_eq_grow, alloc_eq_grow, grow_grow])
 go_wp2_with fail
 generalize ((w.alloc (.cells (u8s xs) 41)).alloc (.cells (u8s ys) 41)) = wr at HX HY HG ⊢
 go_quiet ((go_at_call 98; exact Calls.quiet_of_same (bcompare_any (HX.out.drewN _) hb (HY.out.drewN _) hb' _ _ _ _ hx hy)))
 go_wp2
 go_ret
 exact ⟨rfl, _, _, by rw [HG.out]; rfl⟩
theorem cmpLaysO (b size : Nat) (w : World) : CmpLays Tryz.prog 67 #[] encO 32 cfO b 0 size w := fun _ _ _ _ x y => by
 have h := ccompare_grow x y
 exact h _
def toT (x : List Nat) : OidT := if h : x.length = 32 ∧ (∀ i : Fin 32, x.getD i.val 0 < 256) then ⟨x, h.1, fun i => by
  rcases Nat.lt_or_ge i 32 with hi | hi
  ·exact h.2 ⟨i, hi⟩
  ·simp [List.getD, List.getElem?_eq_none (show x.length ≤ i by omega)]⟩ else default
theorem toT_val {x : List Nat} (h : x.length = 32 ∧ Sha.Byte x) : (toT x).val = x := by
 unfold toT; rw [dif_pos ⟨h.1, fun i => h.2 i.val⟩]
theorem toT_map {l : List (List Nat)} (h : Sha.Oids l) : (l.map toT).map (·.val) = l := by
 rw [List.map_map]
 have e : ∀ x ∈ l, ((fun y : OidT => y.val) ∘ toT) x = x := fun x hx => toT_val (h x hx)
 rw [List.map_congr_left e]; simp
theorem getD_toT {l : List (List Nat)} (h : Sha.Oids l) {i : Nat} (hi : i < l.length) : ((l.map toT).toArray[i]!).val = l.getD i [] := by
 have h2 := h.getD hi
 rw [getElem!_pos _ i (by simpa using hi)]
 simp only [List.getElem_toArray, List.getElem_map]
 have e : l.getD i [] = l[i] := by simp [List.getD, hi]
 rw [e] at h2 ⊢
 exact toT_val h2
theorem holds_of_row {w : World} {b : Nat} {l : List (List Nat)} (h : Sha.Oids l) (hr : OidRow w b l) : HoldsK encO 32 w b 0 (l.map toT).toArray := by
 intro t ht
 rw [size_flatK] at ht
 have hsz : (l.map toT).toArray.size = l.length := by simp
 rw [hsz] at ht
 rw [get_flatK encO 32 _ t (by rw [hsz]; exact ht)]
 have hi : t / 32 < l.length := by omega
 have e1 : encO ((l.map toT).toArray[t / 32]!) = cellsN (l.getD (t / 32) []) := by unfold encO; rw [getD_toT h hi]
 rw [e1]
 have hlen := (h.getD hi).1
 have hc := hr.at_ (t / 32) hi (t % 32) ((cellsN (l.getD (t / 32) []))[t % 32]!) (by
  have hj : t % 32 < (cellsN (l.getD (t / 32) [])).length := by rw [cellsN_len, hlen]; omega
  rw [getElem!_pos (cellsN (l.getD (t / 32) [])) (t % 32) hj, List.getElem?_eq_getElem hj])
 have e2 : 32 * (t / 32) + t % 32 = t := by omega
 rw [e2] at hc
 refine ⟨by rw [Nat.zero_add]; exact hc, ?_⟩
 have := (hr.room t (by omega)).2
 exact this
theorem row_of_holds {w : World} {b : Nat} {d : Array OidT} (h : HoldsK encO 32 w b 0 d) : OidRow w b (d.toList.map (·.val)) := by
 have hg : ∀ i, i < d.size → (d.toList.map (·.val)).getD i [] = (d[i]!).val := fun i hi => by
  rw [getElem!_pos d i hi]; simp [List.getD, hi]
 refine ⟨fun i hi j v hv => ?_, fun j hj => ?_⟩
 ·have hi' : i < d.size := by simpa using hi
  rw [hg i hi'] at hv
  have hj : j < (cellsN (d[i]!).val).length := (List.getElem?_eq_some_iff.1 hv).1
  have hj32 : j < 32 := by rw [cellsN_len, (d[i]!).property.1] at hj; exact hj
  have hc := (h.cell hi' hj32).1
  rw [Nat.zero_add, Nat.mul_comm i 32] at hc
  rw [hc]
  unfold encO
  rw [getElem!_pos (cellsN (d[i]!).val) j hj, ← hv, List.getElem?_eq_getElem hj]
 ·have hj' : j < 32 * d.size := by simpa using hj
  have hc := h.cell (i := j / 32) (c := j % 32) (by omega) (by omega)
  have e : 0 + j / 32 * 32 + j % 32 = 0 + j := by omega
  rw [e] at hc
  exact ⟨by rw [hc.1]; rfl, hc.2⟩
theorem grownBy_sortedK {w : World} {g n : Nat} {os : Array Obj} (d : Array OidT) : w.grownBy (sortWorldK encO 32 w g 0 n d os) (some g) := by
 refine ⟨rfl, rfl, rfl, by simp [sortWorldK, putRowK, Sort.ahead, grow], fun k hk hne => ?_⟩
 unfold sortWorldK
 rw [heap_grow_old _ _ (by simpa [putRowK, Sort.ahead] using hk)]
 have : g ≠ k := fun e => hne (by rw [e])
 simp [putRowK, putRow, mapBlock, Sort.ahead, Array.getElem?_modify, this]
def RdO (w : World) (v : Value) (l : List (List Nat)) : Prop :=
 ∃ A c, v = .slice A l.length c ∧ l.length ≤ c ∧ (0 < l.length → ∃ b o, A = some ⟨b, o, none⟩ ∧ b < w.heap.size ∧ ∀ i, i < l.length → w.rangeAt b (o + 32 * i) (cellsN (l.getD i [])))
theorem run_copy_none_k {P : Program} (w : World) (dT sT ty elem : TypeId) (d a : Option Addr) (k dLen dCap sLen sCap : Nat) (hu : P.underlying dT = some (.slice elem)) (hs : (P.info? elem).map (·.size) = some k) (hn : Nat.min sLen dLen = 0) :
  (Builtin.copy_ #[dT, sT] ty #[.slice d dLen dCap, .slice a sLen sCap]).run P w = .ok (goInt 0) w := by
 cases hq : P.info? elem with
 | none => simp [hq] at hs
 | some i =>
  have hl : ∀ (x : Addr), (loadCells x 0).run P w = .ok #[] w := fun x => by simpa using run_loadCells_list (P := P) w x [] (by simp)
  cases d <;> cases a <;> simp [Builtin.copy_, run_underlying hu, Builtin.lenOf, Builtin.firstCells, sizeOf, typeInfo, hq, hn, storeCells, hl]
theorem getD_cells (l : List (List Nat)) (h : Sha.Oids l) {i j : Nat} (hi : i < l.length) (hj : j < 32) : (cellsN l.flatten)[32 * i + j]? = (cellsN (l.getD i []))[j]? := by
 have h1 := Sha.flat_getD h hi hj
 have hl := (h.getD hi).1
 have hf := Sha.flat_len h
 unfold cellsN
 rw [List.getElem?_map, List.getElem?_map, List.getElem?_eq_getElem (by omega), List.getElem?_eq_getElem (by omega)]
 rw [List.getD, List.getElem?_eq_getElem (show 32 * i + j < l.flatten.length by omega), Option.getD_some] at h1
 rw [h1]
 have e : (l.getD i []).getD j 0 = (l.getD i [])[j] := by rw [List.getD, List.getElem?_eq_getElem (by omega)]; rfl
 rw [e]
theorem copied (w : World) (l : List (List Nat)) (h : Sha.Oids l) (made : Array Value) (hm : made.size = 32 * l.length) :
  OidRow ((w.alloc (.cells made 41)).setCells w.heap.size 0 (cellsN l.flatten)) w.heap.size l := by
 have hb : Blk (w.alloc (.cells made 41)) w.heap.size 41 made := Blk.new w _ _
 have ht : (w.alloc (.cells made 41)).there w.heap.size 0 (32 * l.length) := fun j hj => by
  rw [Nat.zero_add]
  refine ⟨?_, hb.frozen j⟩
  rw [hb.cell j, Array.getElem?_eq_getElem (by omega)]; rfl
 have hfl : (cellsN l.flatten).length = 32 * l.length := by rw [cellsN_len, Sha.flat_len h]
 have hs := World.rangeAt_setCells_same (w.alloc (.cells made 41)) w.heap.size 0 (cellsN l.flatten) (by rw [hfl]; exact ht)
 refine ⟨fun i hi j v hv => ?_, World.there_setCells ht _ _ _⟩
 have hj : j < (cellsN (l.getD i [])).length := (List.getElem?_eq_some_iff.1 hv).1
 rw [cellsN_len, (h.getD hi).1] at hj
 have := hs (32 * i + j) v (by rw [getD_cells l h hi hj]; exact hv)
 rwa [Nat.zero_add] at this
theorem oid_all : (Tryz.prog.info? 41).map (fun i => (i.zero, i.size, i.bytes)) = some (some (.agg (u8s (List.replicate 32 0))), 32, 32) := by kernel_rfl
structure Sorted (w0 : World) (l : List (List Nat)) (r : List (List Nat)) (e : Ending) (w' : World) : Prop where
 val : ∃ b c, e = .returned (.slice (some ⟨b, 0, none⟩) r.length c) ∧ r.length ≤ c ∧ (0 < r.length → b < w'.heap.size) ∧ ∀ i, i < r.length → w'.rangeAt b (32 * i) (cellsN (r.getD i []))
 oids : Sha.Oids r
 mem : ∀ x, x ∈ r ↔ x ∈ l
 rise : Sha.Rising r
 bel : Below w0.heap.size w0 w'
theorem sort_contract (b : Nat) (l : List (List Nat)) (w : World) (hl : Sha.Oids l) (hr : OidRow w b l) (hb : b < w.heap.size) (hz : l.length < 1073741824) :
  Calls Tryz.prog 66 #[.slice (some ⟨b, 0, none⟩) l.length l.length, .func (.func 67) #[] #[]] w fun e w' =>
   e = .returned (.tuple #[]) ∧ ∃ l', l'.length = l.length ∧ Sha.Oids l' ∧ Sha.Asc l' ∧ (∀ x, x ∈ l' ↔ x ∈ l) ∧ OidRow w' b l' ∧ w.grownBy w' (some b) := by
 have eg : ∀ args w, (callFunc 67 args).run Tryz.prog w = .ok (.enter 67 args) w := enters_of Tryz.func67 (by kernel_rfl) rfl
 have hsz : (l.map toT).toArray.size = l.length := by simp
 have hH := holds_of_row hl hr
 have hcon := AnyQ.slices_SortFunc sortOid 32 Tryz.isAgg41 Tryz.sizeOf41 encO encO_len (fun x v hv => cellsN_one _ v hv) cfO swoO 67 #[] b 0 l.length (l.map toT).toArray w eg (cmpLaysO b _ w) hH hb (by rw [hsz]; omega)
 rw [hsz] at hcon
 change Calls Tryz.prog 66 _ _ _ at hcon
 refine hcon.mono ?_
 rintro e w' ⟨he, d', n, os, hp, hs, rfl⟩
 obtain ⟨hps, _, hpp⟩ := hp
 rw [hsz] at hps
 have e1 : d'.extract 0 l.length = d' := by rw [← hps]; simp
 have e2 : (l.map toT).toArray.extract 0 l.length = (l.map toT).toArray := by
  apply Array.ext'
  simp [List.take_of_length_le]
 rw [e1, e2] at hpp
 have hperm : (d'.toList.map (·.val)).Perm l := by
  have h := hpp.map (fun y : OidT => y.val)
  rwa [show (l.map toT).toArray.toList = l.map toT from rfl, toT_map hl] at h
 have hg : ∀ i, i < d'.size → (d'.toList.map (·.val)).getD i [] = (d'[i]!).val := fun i hi => by
  rw [getElem!_pos d' i hi]; simp [List.getD, hi]
 refine ⟨he, d'.toList.map (·.val), by simpa using hps, fun o ho => hl o (hperm.mem_iff.1 ho), ?_, fun x => hperm.mem_iff, ?_, grownBy_sortedK d'⟩
 ·intro i j hij hj
  rw [List.length_map, Array.length_toList] at hj
  rw [hg j hj, hg i (by omega)]
  exact of_decide_eq_false (hs i j (Nat.zero_le _) hij (by omega))
 ·refine row_of_holds ?_
  unfold sortWorldK
  exact holdsK_grow encO 32 _ os b 0 d' (by simpa [putRowK, Sort.ahead] using hb) (holdsK_putRowK encO 32 _ b 0 (l.map toT).toArray d' hH (by rw [hsz, hps]))
set_option maxRecDepth 100000 in
theorem sort_any (v : Value) (l : List (List Nat)) (w : World) (hv : RdO w v l) (hl : Sha.Oids l) (hz : l.length < 1073741824) :
  Calls Tryz.prog 51 #[v] w fun e w' => ∃ r, Sorted w l r e w' := by
 obtain ⟨A, c, rfl, hc, hA⟩ := hv
 obtain ⟨i0, hi0, hiz, his, hib⟩ := info_parts oid_all
 have hmk : ∀ w' : World, (Instr.makeSlice 106 (.int .i64 (l.length : Nat)) (.int .i64 (l.length : Nat))).run Tryz.prog w' = .ok (.slice (some ⟨w'.heap.size, 0, none⟩) l.length l.length) (w'.alloc (.cells (madeCells (Value.agg (u8s (List.replicate 32 0))).cells (l.length * 32)) 41)) := fun w' => by
  have h := run_make (P := Tryz.prog) w' 106 41 i0 _ Tryz.underlying106 hi0 hiz .i64 .i64 (l.length : Nat) (l.length : Nat) (by omega) (Int.le_refl _) (by rw [hib]; omega) (by omega)
  rw [Int.toNat_natCast, his] at h
  exact h
 obtain ⟨made, hmade⟩ : ∃ made, made = madeCells (Value.agg (u8s (List.replicate 32 0))).cells (l.length * 32) := ⟨_, rfl⟩
 rw [← hmade] at hmk
 have hms : made.size = 32 * l.length := by rw [hmade, size_madeCells, Nat.mul_comm]
 clear hmade
 have hcp : ∀ ty, (Builtin.copy_ #[106, 106] ty #[.slice (some ⟨w.heap.size, 0, none⟩) l.length l.length, .slice A l.length c]).run Tryz.prog (w.alloc (.cells made 41)) = .ok (goInt l.length) ((w.alloc (.cells made 41)).setCells w.heap.size 0 (cellsN l.flatten)) := fun ty => by
  rcases Nat.eq_zero_or_pos l.length with h0 | h0
  ·have e : l = [] := List.eq_nil_of_length_eq_zero h0
   subst e
   exact run_copy_none_k _ _ _ ty 41 _ _ 32 0 0 0 c Tryz.underlying106 oid_info' rfl
  ·obtain ⟨b, o, rfl, hb, hx⟩ := hA h0
   have hfl : (cellsN l.flatten).length = 32 * l.length := by rw [cellsN_len, Sha.flat_len hl]
   refine run_copy_k _ _ _ ty 41 32 l.length w.heap.size 0 l.length ⟨b, o, none⟩ c (cellsN l.flatten) Tryz.underlying106 oid_info' (by rw [hfl, Nat.mul_comm]) ?_ ?_ (cellsN_one _)
   ·intro j v hj
    have hjl : j < 32 * l.length := by have := (List.getElem?_eq_some_iff.1 hj).1; omega
    have e : 32 * (j / 32) + j % 32 = j := by omega
    have hg := getD_cells l hl (i := j / 32) (j := j % 32) (by omega) (by omega)
    rw [e, hj] at hg
    have hh := hx (j / 32) (by omega) (j % 32) v hg.symm
    rw [Addr.add_mid, ← e, ← Nat.add_assoc, World.cell?_alloc_past _ _ _ hb]
    exact hh
   ·intro j hj
    rw [hfl] at hj
    have hB : Blk (w.alloc (.cells made 41)) w.heap.size 41 made := Blk.new w _ _
    rw [Nat.zero_add]
    exact ⟨by rw [hB.cell j, Array.getElem?_eq_getElem (by omega)]; rfl, hB.frozen j⟩
 have HROW := Lib.hid (copied w l hl made hms)
 have HBEL : Hid (Below w.heap.size w ((w.alloc (.cells made 41)).setCells w.heap.size 0 (cellsN l.flatten))) := Lib.hid (below_setCells (Nat.le_refl _) _ _ _ ((Below.refl _ _).alloc (Nat.le_refl _) _))
 have HLT : Hid (w.heap.size < ((w.alloc (.cells made 41)).setCells w.heap.size 0 (cellsN l.flatten)).heap.size) := by
  have h : ∀ (vs : List Value) (b o : Nat) (w : World), (w.setCells b o vs).heap.size = w.heap.size := by
   intro vs
   induction vs with
   | nil => intros; rfl
   | cons v r ih => intro b o w; rw [World.setCells, ih]; simp [World.setCell]
  exact Lib.hid (by rw [h]; simp)
 clear hA
 go_enter Tryz.func51, Tryz.ntmps51
 go_wp2_with fail
 clear hmk hcp
 generalize ((w.alloc (.cells made 41)).setCells w.heap.size 0 (cellsN l.flatten)) = w2 at HROW HBEL HLT ⊢
 refine (sort_contract w.heap.size l w2 hl HROW.out HLT.out hz).mono ?_
 rintro e w3 ⟨rfl, l', hlen, hol, hasc, hmem, hrow, hgr⟩
 have HLEN := Lib.hid hlen
 have HMEM := Lib.hid hmem
 have HASC := Lib.hid hasc
 have HROW3 := Lib.hid hrow
 have HOL := Lib.hid hol
 have HB3 := Lib.hid (below_of_only HBEL.out hgr (Nat.le_refl _))
 have HL3 := Lib.hid (Nat.lt_of_lt_of_le HLT.out hgr.size)
 clear hlen hmem hasc hrow hgr hol
 go_wp2_with fail
 rw [← HLEN.out]
 refine (compact_any w.heap.size l'.length l' w w3 w.heap.size HOL.out (by rw [HLEN.out]; omega) HROW3.out (Nat.le_refl _) (by rw [HLEN.out]; omega) (Nat.le_refl _) HB3.out).mono ?_
 rintro e w4 ⟨rfl, hkept⟩
 have HK := Lib.hid hkept
 clear hkept
 go_wp2_with fail
 go_ret
 refine ⟨Sha.compK l' l'.length, ⟨w.heap.size, l'.length, rfl, Sha.compK_len _ _, ?_, HK.out.row⟩, ?_, ?_, Sha.compK_rising l' HASC.out _ (Nat.le_refl _), HK.out.bel⟩
 ·intro h0
  have h1 := HK.out.row 0 h0
  have h2 : ((Sha.compK l' l'.length).getD 0 []).length = 32 := (Sha.Oids.getD (l := Sha.compK l' l'.length) (fun o ho => HOL.out o (List.mem_of_mem_take ((Sha.compK_mem l' _ (Nat.le_refl _) o).1 ho))) h0).1
  have h3 := h1 0 ((cellsN ((Sha.compK l' l'.length).getD 0 []))[0]'(by rw [cellsN_len, h2]; omega)) (List.getElem?_eq_getElem _)
  exact block_lt_of_cell h3
 ·intro o ho
  exact HOL.out o (List.mem_of_mem_take ((Sha.compK_mem l' _ (Nat.le_refl _) o).1 ho))
 ·intro x
  rw [Sha.compK_mem l' _ (Nat.le_refl _) x, List.take_length]
  exact HMEM.out x
end Go.Proofs.YtgcgomdhdgjpdaaGreatDoor
