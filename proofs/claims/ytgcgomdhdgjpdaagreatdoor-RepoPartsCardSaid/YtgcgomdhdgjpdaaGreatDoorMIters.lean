/- The library's contracts on sorted keys at this program's numbers: each by one application. -/
import Derived.Shelf.SlIter.Nil
import Derived.Shelf.SortM.Plain
import Derived.Shelf.SortM.SortNone
import Derived.Ground.GgzProg
import Derived.Ground.SlgmProg
import Derived.Test.YtgcgomdhdgjpdaaGreatDoorProg
import Derived.Test.YtgcgomdhdgjpdaaGreatDoorMRp2s
import Derived.Test.YtgcgomdhdgjpdaaGreatDoorMRp14
import Derived.Test.YtgcgomdhdgjpdaaGreatDoorMEn19s
import Derived.Test.YtgcgomdhdgjpdaaGreatDoorMRp12s
import Derived.Test.YtgcgomdhdgjpdaaGreatDoorMRp8s
import Derived.Test.YtgcgomdhdgjpdaaGreatDoorMEn20s
namespace Go.Proofs
open Go.Shelf
def Tryz.keys30_ren : Go.Shelf.Ren := ⟨fun | 7 => 30 | 10 => 50 | n => n, fun | 23 => 62 | 26 => 9 | 3 => 41 | 28 => 80 | 0 => 0 | 27 => 79 | 33 => 105 | 4 => 4 | n => n, fun | n => n⟩
theorem Tryz.keys30 : Go.Proofs.SlLaysZ.n7 Tryz.prog Tryz.keys30_ren := {
 mixed := by kernel_rfl
 f7 := ⟨Tryz.f30.name, by decide, Tryz.func30.trans (congrArg some (by kernel_rfl))⟩
 f10 := ⟨Tryz.f50.name, by decide, Tryz.func50.trans (congrArg some (by kernel_rfl))⟩
 t0 := Tryz.underlying0
 a0 := Tryz.isAgg0
 z0 := Tryz.sizeOf0
 v0 := Tryz.zeroValue0
 t4 := Tryz.underlying4
 a4 := Tryz.isAgg4
 z4 := Tryz.sizeOf4
 v4 := Tryz.zeroValue4
 t23 := Tryz.underlying62
 a23 := Tryz.isAgg62
 z23 := Tryz.sizeOf62
 v23 := Tryz.zeroValue62
 t26 := Tryz.underlying9
 a26 := Tryz.isAgg9
 z26 := Tryz.sizeOf9
 v26 := Tryz.zeroValue9
 t27 := Tryz.underlying79
 a27 := Tryz.isAgg79
 z27 := Tryz.sizeOf79
 v27 := Tryz.zeroValue79
 t28 := Tryz.underlying80
 a28 := Tryz.isAgg80
 z28 := Tryz.sizeOf80
 v28 := Tryz.zeroValue80
 t33 := Tryz.underlying105
 a33 := Tryz.isAgg105
 z33 := Tryz.sizeOf105
 v33 := Tryz.zeroValue105 }
def Tryz.sorted29_ren : Go.Shelf.Ren := ⟨fun | 6 => 29 | 8 => 48 | 9 => 49 | 11 => 63 | 13 => 65 | 12 => 64 | 23 => 95 | 24 => 96 | 14 => 86 | 15 => 87 | 16 => 88 | 17 => 89 | 18 => 90 | 19 => 91 | 20 => 92 | 21 => 93 | 22 => 94 | 25 => 116 | 26 => 117 | 27 => 118 | 28 => 119 | 29 => 120 | 30 => 121 | 31 => 147 | n => n, fun | 26 => 9 | 28 => 80 | 24 => 77 | 0 => 0 | 3 => 3 | 37 => 49 | 48 => 112 | 50 => 115 | 4 => 4 | 40 => 166 | 39 => 165 | 45 => 171 | 5 => 5 | 9 => 9 | 51 => 198 | 55 => 202 | 57 => 231 | 58 => 70 | 33 => 105 | n => n, fun | n => n⟩
theorem Tryz.sorted29 : Go.Proofs.SlLaysZ.n6 Tryz.prog Tryz.sorted29_ren := {
 mixed := by kernel_rfl
 f6 := ⟨Tryz.f29.name, by decide, Tryz.func29.trans (congrArg some (by kernel_rfl))⟩
 f8 := ⟨Tryz.f48.name, by decide, Tryz.func48.trans (congrArg some (by kernel_rfl))⟩
 f11 := ⟨Tryz.f63.name, by decide, Tryz.func63.trans (congrArg some (by kernel_rfl))⟩
 t0 := Tryz.underlying0
 a0 := Tryz.isAgg0
 z0 := Tryz.sizeOf0
 v0 := Tryz.zeroValue0
 t24 := Tryz.underlying77
 a24 := Tryz.isAgg77
 z24 := Tryz.sizeOf77
 v24 := Tryz.zeroValue77
 t26 := Tryz.underlying9
 a26 := Tryz.isAgg9
 z26 := Tryz.sizeOf9
 v26 := Tryz.zeroValue9
 t28 := Tryz.underlying80
 a28 := Tryz.isAgg80
 z28 := Tryz.sizeOf80
 v28 := Tryz.zeroValue80
 i26 := by kernel_rfl }
def Tryz.sort49_ren : Go.Shelf.Ren := ⟨fun | 6 => 49 | 8 => 65 | 9 => 64 | 19 => 95 | 20 => 96 | 21 => 86 | 22 => 87 | 23 => 88 | 24 => 89 | 25 => 90 | 26 => 91 | 27 => 92 | 28 => 93 | 29 => 94 | 36 => 116 | 31 => 117 | 32 => 118 | 37 => 119 | 38 => 120 | 39 => 121 | 41 => 147 | n => n, fun | 27 => 77 | 29 => 9 | 3 => 3 | 32 => 49 | 26 => 77 | 0 => 0 | 44 => 112 | 46 => 115 | 4 => 4 | 36 => 166 | 35 => 165 | 41 => 171 | 5 => 5 | 9 => 9 | 53 => 198 | 57 => 202 | 63 => 231 | 64 => 70 | n => n, fun | n => n⟩
theorem Tryz.sort49 : Go.Proofs.SlLaysM.n6 Tryz.prog Tryz.sort49_ren := {
 mixed := by kernel_rfl
 f6 := ⟨Tryz.f49.name, by decide, Tryz.func49.trans (congrArg some (by kernel_rfl))⟩
 f8 := Tryz.func65.trans (congrArg some (by kernel_rfl))
 f9 := ⟨Tryz.f64.name, by decide, Tryz.func64.trans (congrArg some (by kernel_rfl))⟩
 f19 := Tryz.func95.trans (congrArg some (by kernel_rfl))
 f20 := Tryz.func96.trans (congrArg some (by kernel_rfl))
 f21 := ⟨Tryz.f86.name, by decide, Tryz.func86.trans (congrArg some (by kernel_rfl))⟩
 f22 := ⟨Tryz.f87.name, by decide, Tryz.func87.trans (congrArg some (by kernel_rfl))⟩
 f23 := ⟨Tryz.f88.name, by decide, Tryz.func88.trans (congrArg some (by kernel_rfl))⟩
 f24 := ⟨Tryz.f89.name, by decide, Tryz.func89.trans (congrArg some (by kernel_rfl))⟩
 f25 := ⟨Tryz.f90.name, by decide, Tryz.func90.trans (congrArg some (by kernel_rfl))⟩
 f26 := ⟨Tryz.f91.name, by decide, Tryz.func91.trans (congrArg some (by kernel_rfl))⟩
 f27 := ⟨Tryz.f92.name, by decide, Tryz.func92.trans (congrArg some (by kernel_rfl))⟩
 f28 := ⟨Tryz.f93.name, by decide, Tryz.func93.trans (congrArg some (by kernel_rfl))⟩
 f29 := ⟨Tryz.f94.name, by decide, Tryz.func94.trans (congrArg some (by kernel_rfl))⟩
 f31 := Tryz.func117.trans (congrArg some (by kernel_rfl))
 f32 := Tryz.func118.trans (congrArg some (by kernel_rfl))
 f36 := ⟨Tryz.f116.name, by decide, Tryz.func116.trans (congrArg some (by kernel_rfl))⟩
 f37 := ⟨Tryz.f119.name, by decide, Tryz.func119.trans (congrArg some (by kernel_rfl))⟩
 f38 := ⟨Tryz.f120.name, by decide, Tryz.func120.trans (congrArg some (by kernel_rfl))⟩
 f39 := ⟨Tryz.f121.name, by decide, Tryz.func121.trans (congrArg some (by kernel_rfl))⟩
 f41 := ⟨Tryz.f147.name, by decide, Tryz.func147.trans (congrArg some (by kernel_rfl))⟩
 t0 := Tryz.underlying0
 a0 := Tryz.isAgg0
 z0 := Tryz.sizeOf0
 v0 := Tryz.zeroValue0
 t3 := Tryz.underlying3
 a3 := Tryz.isAgg3
 z3 := Tryz.sizeOf3
 v3 := Tryz.zeroValue3
 t4 := Tryz.underlying4
 a4 := Tryz.isAgg4
 z4 := Tryz.sizeOf4
 v4 := Tryz.zeroValue4
 t5 := Tryz.underlying5
 a5 := Tryz.isAgg5
 z5 := Tryz.sizeOf5
 v5 := Tryz.zeroValue5
 t9 := Tryz.underlying9
 a9 := Tryz.isAgg9
 z9 := Tryz.sizeOf9
 v9 := Tryz.zeroValue9
 t26 := Tryz.underlying77
 a26 := Tryz.isAgg77
 z26 := Tryz.sizeOf77
 v26 := Tryz.zeroValue77
 t27 := Tryz.underlying77
 a27 := Tryz.isAgg77
 z27 := Tryz.sizeOf77
 v27 := Tryz.zeroValue77
 t29 := Tryz.underlying9
 a29 := Tryz.isAgg9
 z29 := Tryz.sizeOf9
 v29 := Tryz.zeroValue9
 t32 := Tryz.underlying49
 a32 := Tryz.isAgg49
 z32 := Tryz.sizeOf49
 v32 := Tryz.zeroValue49
 t35 := Tryz.underlying165
 a35 := Tryz.isAgg165
 z35 := Tryz.sizeOf165
 v35 := Tryz.zeroValue165
 t36 := Tryz.underlying166
 a36 := Tryz.isAgg166
 z36 := Tryz.sizeOf166
 v36 := Tryz.zeroValue166
 t41 := Tryz.underlying171
 a41 := Tryz.isAgg171
 z41 := Tryz.sizeOf171
 v41 := Tryz.zeroValue171
 t44 := Tryz.underlying112
 a44 := Tryz.isAgg112
 z44 := Tryz.sizeOf112
 v44 := Tryz.zeroValue112
 t46 := Tryz.underlying115
 a46 := Tryz.isAgg115
 z46 := Tryz.sizeOf115
 v46 := Tryz.zeroValue115
 t53 := Tryz.underlying198
 a53 := Tryz.isAgg198
 z53 := Tryz.sizeOf198
 v53 := Tryz.zeroValue198
 t57 := Tryz.underlying202
 a57 := Tryz.isAgg202
 z57 := Tryz.sizeOf202
 v57 := Tryz.zeroValue202
 t63 := Tryz.underlying231
 a63 := Tryz.isAgg231
 z63 := Tryz.sizeOf231
 v63 := Tryz.zeroValue231
 t64 := Tryz.underlying70
 a64 := Tryz.isAgg70
 z64 := Tryz.sizeOf70
 v64 := Tryz.zeroValue70 }
open Go.RowKit Go.Maps Go.Sort Go.Shelf in
theorem Tryz.sorts29 (m : Nat) : AnyZ.SortsIn Tryz.prog Tryz.sorted29_ren Fence.wide m :=
  ⟨fun blk off cap ss W hH hblk hsz => callsIn_wide.2 (AnyM.slices_Sort_string Tryz.sort49 blk off cap ss W hH hblk hsz),
   fun p cap W => callsIn_wide.2 (AnyM.slices_Sort_string_none Tryz.sort49 p cap W)⟩
open Go.RowKit Go.Maps Go.Sort Go.Shelf in
theorem Tryz.maps_Keys_30 (mb : Option Nat) (W : World) : CallsIn Fence.wide 5 Tryz.prog 30 #[.map mb] W fun e w' => e = .returned (.func (.func 50) #[] #[.pointer (some ⟨W.heap.size, 0, none⟩)]) ∧ w' = W.alloc (.cells #[.map mb] 62) :=
 AnyZ.keys_in Tryz.keys30 Fence.wide 5 trivial rfl mb W
open Go.RowKit Go.Maps Go.Sort Go.Shelf in
theorem Tryz.slices_Sorted_keys_29_30 {H : Type} (b nn : Nat) (D0 : DataW H) (R : Value → Option (DataW H × List MemPlace)) (w : World) (hown : w.ownsMap Tryz.prog 9 R b nn D0) (hmax : Maps.size D0 ≤ maxLen) (hbytes : Maps.size D0 * 16 ≤ 140737488355328) :
  CallsIn Fence.wide 5 Tryz.prog 29 #[.func (.func 50) #[] #[.pointer (some ⟨w.heap.size, 0, none⟩)]] (w.alloc (.cells #[.map (some b)] 62)) fun e w' => ∃ (v : Value) (ss : List (List UInt8)), e = .returned v ∧ ss.Perm (strKeys D0) ∧
   w'.ownsRow (w.alloc (.cells #[.map (some b)] 62)).heap.size 9 1 v ss.length ((ss.mergeSort (fun x y => decide (x ≤ y))).map encStr) ∧ (v = .slice none 0 0 ↔ ss = []) ∧ Below (w.alloc (.cells #[.map (some b)] 62)).heap.size (w.alloc (.cells #[.map (some b)] 62)) w' := by
 have hbl := hown.lt
 have hseq : SeqGives Fence.wide 2 Tryz.prog 50 #[.pointer (some ⟨w.heap.size, 0, none⟩)] encStr (fun ss => ss.Perm (strKeys D0)) (Maps.size D0) (w.alloc (.cells #[.map (some b)] 62)) :=
  AnyZ.keys_gives (ρ := Tryz.keys30_ren) { Tryz.keys30 with } Fence.wide _ trivial rfl (by omega) w.heap.size b nn D0 _ (by simp) (by simp) (by
   obtain ⟨es, clock, hb, Ft, hs, hD⟩ := hown
   exact ⟨es, clock, (Below.heap_alloc _ _ b hbl).trans hb, Ft, hs, hD⟩)
 exact AnyZ.sorted_in Tryz.sorted29 Fence.wide 5 trivial trivial trivial trivial rfl (by omega) (Tryz.sorts29 _) (enters_of Tryz.func49 (by kernel_rfl) rfl) 50 #[.pointer (some ⟨w.heap.size, 0, none⟩)] trivial (enters_of Tryz.func50 (by kernel_rfl) rfl) _ _ hmax hbytes _ hseq
open Go.RowKit Go.Maps Go.Sort Go.Shelf in
theorem Tryz.slices_Sorted_keys_nil_29_30 (w : World) :
  CallsIn Fence.wide 5 Tryz.prog 29 #[.func (.func 50) #[] #[.pointer (some ⟨w.heap.size, 0, none⟩)]] (w.alloc (.cells #[.map none] 62)) fun e w' => ∃ (v : Value) (ss : List (List UInt8)), e = .returned v ∧ ss = [] ∧
   w'.ownsRow (w.alloc (.cells #[.map none] 62)).heap.size 9 1 v ss.length ((ss.mergeSort (fun x y => decide (x ≤ y))).map encStr) ∧ (v = .slice none 0 0 ↔ ss = []) ∧ Below (w.alloc (.cells #[.map none] 62)).heap.size (w.alloc (.cells #[.map none] 62)) w' := by
 have hseq : SeqGives Fence.wide 2 Tryz.prog 50 #[.pointer (some ⟨w.heap.size, 0, none⟩)] encStr (fun ss : List (List UInt8) => ss = []) 0 (w.alloc (.cells #[.map none] 62)) :=
  AnyZ.keys_gives_nil (ρ := Tryz.keys30_ren) { Tryz.keys30 with } Fence.wide _ trivial rfl w.heap.size _ (by simp) (by simp)
 exact AnyZ.sorted_in Tryz.sorted29 Fence.wide 5 trivial trivial trivial trivial rfl (by omega) (Tryz.sorts29 _) (enters_of Tryz.func49 (by kernel_rfl) rfl) 50 #[.pointer (some ⟨w.heap.size, 0, none⟩)] trivial (enters_of Tryz.func50 (by kernel_rfl) rfl) _ 0 (Nat.zero_le _) (by omega) _ hseq
end Go.Proofs
/- The names of a map, sorted: slices.Sorted(maps.Keys(m)). -/
namespace Go.Proofs.YtgcgomdhdgjpdaaGreatDoor
open Go Go.RowKit Go.Maps Go.Sort Go.Shelf
def txB (x : List UInt8) : ByteArray := ⟨x.toArray⟩
theorem MapS.names {w : World} {b n : Nat} {f : ByteArray → Option Value} (h : MapS w b n f) :
  ∃ D : DataW Value, w.ownsMap Tryz.prog 9 selfS b n D ∧ ∃ s0 : List (List UInt8), s0.Perm (strKeys D) ∧ (∀ x ∈ s0, okS (txB x) ∧ (f (txB x)).isSome = true) ∧ Cnt okS f s0.length := by
 obtain ⟨D, h, k⟩ := h
 refine ⟨D, h, ?_⟩
 obtain ⟨ls, h1, h2, h3, h4⟩ := keys_list h str_law
 obtain ⟨xs, rfl, hq⟩ := list_of (Q := okS) (g := fun i : ByteArray => Lit.string i.data.toList) ls (fun l hl => by
  obtain ⟨v, hv⟩ := h2 l hl
  obtain ⟨s, rfl, rfl, hs⟩ := Go.WideMaps.string_of_keyOf Tryz.underlying9 hv
  exact ⟨s, hs, rfl⟩)
 have hnd := nodup_of_map h1
 have hmem : ∀ i, okS i → (i ∈ xs ↔ (f i).isSome = true) := fun i hi => by
  rw [← (k i hi).1, h3 _ ⟨_, skey_of hi⟩]
  constructor
  ·exact fun hm => List.mem_map.2 ⟨i, hm, rfl⟩
  ·intro hm
   obtain ⟨j, hj, e⟩ := List.mem_map.1 hm
   injection e with e
   obtain rfl : j = i := ByteArray.ext (Array.toList_inj.1 e)
   exact hj
 have hinj : ∀ i : ByteArray, txB i.data.toList = i := fun i => rfl
 have hs : ∀ x, x ∈ xs.map (fun i => i.data.toList) ↔ (has D (.string x) = true ∧ (fun _ : Lit => false) (.string x) = false) := fun x => by
  constructor
  ·intro hx
   obtain ⟨i, hi, rfl⟩ := List.mem_map.1 hx
   exact ⟨by rw [(k i (hq i hi)).1]; exact (hmem i (hq i hi)).1 hi, rfl⟩
  ·rintro ⟨hx, _⟩
   have hl : x ∈ strKeys D := by
    obtain ⟨es, rfl, hko⟩ := h.keysOf
    rw [has_eq, List.any_eq_true] at hx
    obtain ⟨p, hp, hsk⟩ := hx
    refine List.mem_map.2 ⟨p, hp, ?_⟩
    have e := WideAt.sameKey_eq hsk
    rw [e]
    rfl
   have hok : okS (txB x) := by
    have := strKeys_le h Tryz.underlying9 x hl
    exact this
   refine List.mem_map.2 ⟨txB x, (hmem _ hok).2 ?_, rfl⟩
   rw [← (k _ hok).1]
   exact hx
 have hnd2 : (xs.map (fun i : ByteArray => i.data.toList)).Nodup := by
  refine List.Pairwise.map _ (fun a b hne e => hne ?_) hnd
  exact ByteArray.ext (Array.toList_inj.1 e)
 have hp := Collected.perm (left := fun _ => false) ⟨hnd2, hs⟩ h str_law Tryz.underlying9 (fun _ => rfl)
 refine ⟨_, hp, fun x hx => ?_, ?_⟩
 ·obtain ⟨i, hi, rfl⟩ := List.mem_map.1 hx
  exact ⟨hq i hi, (hmem i (hq i hi)).1 hi⟩
 ·rw [List.length_map]
  exact ⟨xs, hnd, hq, hmem, rfl⟩
def NmPost (w : World) (f : ByteArray → Option Value) (e : Ending) (w' : World) : Prop :=
 ∃ v, ∃ ss : List (List UInt8), e = .returned v ∧ w'.ownsRow (w.heap.size + 1) 9 1 v ss.length (ss.map encStr) ∧ (∀ x ∈ ss, okS (txB x) ∧ (f (txB x)).isSome = true) ∧ Cnt okS f ss.length ∧ Below w.heap.size w w'
theorem namesS_any (n : Nat) (hn : n ≤ 100000) (f : ByteArray → Option Value) (v : Value) (w : World) (hs : SrcS w v n f) :
  Calls Tryz.prog 29 #[.func (.func 50) #[] #[.pointer (some ⟨w.heap.size, 0, none⟩)]] (w.alloc (.cells #[v] 62)) (NmPost w f) := by
 refine (callsIn_wide (n := 5)).1 ?_
 have hb0 : Below w.heap.size w (w.alloc (.cells #[v] 62)) := (Below.refl _ _).alloc (Nat.le_refl _) _
 rcases hs with ⟨rfl, h0⟩ | ⟨b, rfl, h⟩
 ·refine CallsIn.mono (Tryz.slices_Sorted_keys_nil_29_30 w) ?_
  rintro e w' ⟨v, ss, rfl, rfl, hrow, _, hb⟩
  have e1 : ([] : List (List UInt8)).mergeSort (fun x y => decide (x ≤ y)) = [] := by simp
  rw [e1, World.size_alloc] at hrow
  exact ⟨v, [], rfl, hrow, fun _ h => (by cases h), Cnt.nil _ fun k _ => h0 k, below_next hb0 hb⟩
 ·obtain ⟨D, hD, s0, hp, hm, hc⟩ := h.names
  have hz : Maps.size D ≤ n := hD.size_le
  refine CallsIn.mono (Tryz.slices_Sorted_keys_29_30 b n D selfS w hD (by unfold maxLen; omega) (by omega)) ?_
  rintro e w' ⟨v, ss, rfl, hS, hrow, _, hb⟩
  rw [World.size_alloc] at hrow
  have hpm : (ss.mergeSort (fun x y => decide (x ≤ y))).Perm s0 := ((List.mergeSort_perm ss _).trans hS).trans hp.symm
  have hl : ss.length = (ss.mergeSort (fun x y => decide (x ≤ y))).length := ((List.mergeSort_perm ss _).length_eq).symm
  refine ⟨v, ss.mergeSort (fun x y => decide (x ≤ y)), rfl, by rw [← hl]; exact hrow, fun x hx => hm x (hpm.mem_iff.1 hx), by rw [hpm.length_eq]; exact hc, below_next hb0 hb⟩
end Go.Proofs.YtgcgomdhdgjpdaaGreatDoor
/- All refs: Refs. -/
namespace Go.Proofs.YtgcgomdhdgjpdaaGreatDoor
open Go Go.RowKit Go.Maps
theorem ref_info : (Tryz.prog.info? 43).map (fun i => (i.zero, i.size, i.bytes)) = some (some (.agg (cellsE1 ⟨⟨#[]⟩, List.replicate 32 0⟩).toArray), 33, 48) := by kernel_rfl
theorem ref_places : (Tryz.prog.fieldsOf 43).toList.mapM (fun f => (Tryz.prog.info? f.type).map fun i => (f.offset, i.size)) = some [(0, 1), (1, 32)] := by kernel_rfl
theorem ref_zero : ((Tryz.prog.info? 43).bind (·.zero)).map (·.cells) = some (cellsE1 ⟨⟨#[]⟩, List.replicate 32 0⟩).toArray := by kernel_rfl
theorem ref_under : Tryz.prog.underlying 43 = some (.struct (Tryz.prog.fieldsOf 43)) := by kernel_rfl
theorem ref_built (x : Ent) (h : Id32 x.id) : Tryz.prog.built 43 [(0, .string x.name), (1, .agg (cellsB x.id).toArray)] = some (cellsE1 x).toArray := by
 rw [built_of ref_under ref_zero ref_places]
 have e1 := fill_part (fun i => ([(0, 1), (1, 32)] : List (Nat × Nat)).toArray[i]?) 0 0 1 (.string x.name) [(1, .agg (cellsB x.id).toArray)] [.string x.name] [.string ⟨#[]⟩] [] (cellsB (List.replicate 32 0)) rfl rfl rfl rfl rfl
 have e2 := fill_part (fun i => ([(0, 1), (1, 32)] : List (Nat × Nat)).toArray[i]?) 1 1 32 (.agg (cellsB x.id).toArray) [] (cellsB x.id) (cellsB (List.replicate 32 0)) [.string x.name] [] rfl rfl (by rw [cellsB_len, h.1]) (by rw [cellsB_len]; rfl) rfl
 rw [List.append_nil, List.append_nil] at e2
 exact e1.trans e2
def refE (f : ByteArray → Option (List Nat)) (x : List UInt8) : Ent := ⟨txB x, (f (txB x)).getD Rp.z32⟩
theorem refs_snoc (f : ByteArray → Option (List Nat)) {ss : List (List UInt8)} {k : Nat} (hk : k < ss.length) : cellsE ((ss.take (k + 1)).map (refE f)) = cellsE ((ss.take k).map (refE f)) ++ cellsE1 (refE f ss[k]) := by
 rw [List.take_succ_eq_append_getElem hk, List.map_append]
 unfold cellsE
 rw [List.flatMap_append]
 simp
def RfPost (w : World) (f : ByteArray → Option (List Nat)) (e : Ending) (w' : World) : Prop :=
 ∃ v, ∃ ss : List (List UInt8), e = .returned v ∧ w'.ownsRow w.heap.size 43 33 v ss.length (cellsE (ss.map (refE f))) ∧ (∀ x ∈ ss, ∃ y, f (txB x) = some y) ∧ Cnt okS f ss.length ∧ Below w.heap.size w w'
set_option maxRecDepth 100000 in
set_option maxHeartbeats 4000000 in
theorem refs_any (r : Nat) (j rf ob : Value) (ls : List Nat) (N : Nat) (f : ByteArray → Option (List Nat)) (w : World) (h : RpM w r j ls rf ob) (hs : SrcS w rf N (fun i => (f i).map idV)) (hf : ∀ i x, f i = some x → Id32 x) (hN : N ≤ 50000) :
  Calls Tryz.prog 12 #[.pointer (some ⟨r, 0, none⟩)] w (RfPost w f) := by
 obtain ⟨mb, hmb⟩ : ∃ mb, rf = .map mb := by
  rcases hs with ⟨h, _⟩ | ⟨b, h, _⟩
  ·exact ⟨_, h⟩
  ·exact ⟨_, h⟩
 subst hmb
 have CK := (callsIn_wide (n := 5)).1 (Tryz.maps_Keys_30 mb w)
 have CN := namesS_any N (by omega) (fun i => (f i).map idV) (.map mb) w hs
 have c9 := h.refs
 have H := Lib.hid h
 have HS := Lib.hid hs
 have HF := Lib.hid hf
 have HN := Lib.hid hN
 clear h hs hf hN
 go_enter Tryz.func12, Tryz.ntmps12
 go_wp2_with (go_at_call 30; refine pause ?_)
 unfold Paused
 refine CK.mono ?_
 rintro e w1 ⟨rfl, hw1⟩
 subst hw1
 clear CK
 go_wp2_with (go_at_call 29; refine pause ?_)
 unfold Paused
 refine CN.mono ?_
 rintro e w2 ⟨v2, ss, rfl, ho2, hm2, hc2, hb2⟩
 obtain ⟨A2, c2, rfl⟩ := own_slice ho2
 have hrow : 0 < ss.length → ∃ b o, A2 = some ⟨b, o, none⟩ ∧ b < w2.heap.size ∧ ∀ i x, ss[i]? = some x → w2.cell? ⟨b, o + i, none⟩ = some (.string (txB x)) := fun h0 => by
  obtain ⟨A', c', hv, _, hA⟩ := rdk_own ho2
  injection hv with e1 _ _
  subst e1
  obtain ⟨b, o, ha, hl, hx⟩ := hA h0
  exact ⟨b, o, ha, hl, fun i x hi => hx i (encStr x) (by rw [List.getElem?_map, hi]; rfl)⟩
 have hle : ss.length ≤ N := by
  obtain ⟨c, _, hc, hn⟩ := HS.out.len
  rw [hc2.uniq hc]
  exact hn
 have HROW := Lib.hid hrow
 have HB2 := Lib.hid hb2
 have HR2 := Lib.hid (H.out.below hb2 H.out.lt)
 have HM2 := Lib.hid hm2
 have HC2 : Hid (Cnt okS f ss.length) := Lib.hid (Rp.cnt_map hc2 (fun i _ => by simp))
 obtain ⟨n, hn⟩ : ∃ n, n = ss.length := ⟨_, rfl⟩
 rw [← hn] at hle ⊢
 have HLE := Lib.hid hle
 have HNE := Lib.hid hn
 obtain ⟨ip, hip, hpz, hps, hpb⟩ := info_parts ref_info
 have HIP : Hid (_ ∧ _ ∧ _ ∧ _) := Lib.hid ⟨hip, hpz, hps, hpb⟩
 clear hip hpz hps hpb ho2 hm2 hc2 hb2 hrow hle hn CN c9
 go_wp2_with fail
 go_loopw [3, 14] (fun v i wr => ∃ k : Nat, k ≤ n ∧ i = .int .i64 k ∧ Hid (wr.ownsRow w2.heap.size 43 33 v k (cellsE ((ss.take k).map (refE f))) ∧ Below w2.heap.size w2 wr)) (fun _ i _ => n - (intOf i).toNat)
 case atStart => exact ⟨0, Nat.zero_le _, rfl, Lib.hid ⟨World.ownsRow_nil _ _ _ _, Below.refl _ _⟩⟩
 case round =>
  obtain ⟨k, hk, rfl, HW⟩ := hrel
  obtain ⟨Av, cv, hv⟩ := own_slice HW.out.1
  subst hv
  rcases Nat.lt_or_ge k n with hlt | hge
  ·have hkl : k < ss.length := by rw [← HNE.out]; exact hlt
   have i1 : ((k : Nat) : Int) < n := by omega
   have i2 : (0 : Int) ≤ ((k : Nat) : Int) := by omega
   have i3 : ((k : Nat) : Int) < 100000 := by have := HLE.out; have := HN.out; omega
   obtain ⟨b, o, rfl, hbl, hcl⟩ := HROW.out (by omega)
   have pc : wr.cell? ⟨b, o + k, none⟩ = some (.string (txB ss[k])) := (HW.out.2.cell (p := ⟨b, o + k, none⟩) hbl).trans (hcl k ss[k] (List.getElem?_eq_getElem hkl))
   have hok := HM2.out ss[k] (List.getElem_mem hkl)
   have HVS := Lib.hid (refs_snoc f hkl)
   generalize ss[k] = x at pc hok HVS
   have hrd : Id32 (refE f x).id := by
    unfold refE
    dsimp only
    cases hx : f (txB x) with
    | none => exact Rp.z32_id
    | some y => exact HF.out _ _ hx
   have hrv : ((fun i => (f i).map idV) (txB x)).getD (.agg (u8s (List.replicate 32 0))) = .agg (u8s (refE f x).id) := by
    unfold refE
    dsimp only
    cases f (txB x) <;> rfl
   have CF := ref_ofAny r j (.map mb) ob ls N (fun i => (f i).map idV) (txB x) wr (HR2.out.below HW.out.2 HR2.out.lt) (HS.out.below (below_next HB2.out HW.out.2)) hok.1 (agg_idV HF.out)
   rw [hrv] at CF
   have HRB := Lib.hid (ref_built (refE f x) hrd)
   have HID := Lib.hid hrd
   have HRN : Hid ((refE f x).name = txB x) := Lib.hid rfl
   generalize refE f x = en at CF HRB HID HVS HRN
   have HLT : Hid (k + 1 ≤ n) := Lib.hid hlt
   clear hkl hbl hcl hk hlt hok hrv hrd
   go_wp2_with (go_at_call 31; refine pause ?_)
   unfold Paused
   refine CF.mono ?_
   rintro e w3 ⟨rfl, hb3⟩
   have HW3 : Hid (w3.ownsRow w2.heap.size 43 33 (.slice Av k cv) k (cellsE ((ss.take k).map (refE f))) ∧ Below w2.heap.size w2 w3) := Lib.hid ⟨HW.out.1.kept (only_of_below hb3 none) (by cases hv : (Value.slice Av k cv).ownBlock with | none => exact Or.inl rfl | some g => exact Or.inr (by simp)), below_next HW.out.2 hb3⟩
   clear HW CF hb3 pc
   clear wr
   go_wp2_with (with_reducible (show wpList _ _ _ (Oper.mk _ (Op.build 43 _) _ _ _ _ :: _) _ _); refine pause ?_)
   unfold Paused
   refine wpList_buildK (by rfl) 43 _ (by rfl) [(0, .string (txB x)), (1, .agg (cellsB en.id).toArray)] (by kernel_rfl) (cellsE1 en).toArray (by have h := HRB.out; rw [HRN.out] at h; exact h) ?_
   try simp only [Act.put, List.setIfInBounds_toArray, List.set_cons_zero, List.set_cons_succ]
   go_wp2_with (with_reducible (show wpList _ _ _ (Oper.mk _ (Op.buildSlice _ _ _) _ _ _ _ :: _) _ _); refine pause ?_)
   unfold Paused
   refine wpList_buildSliceK (by rfl) 38 43 1 _ (by rfl) (cellsE1 en).toArray ip (.agg (cellsE1 ⟨⟨#[]⟩, List.replicate 32 0⟩).toArray) Tryz.underlying38 HIP.out.1 HIP.out.2.1 (by rw [HIP.out.2.2.1]; decide) (by rw [HIP.out.2.2.1]; decide) _ (by kernel_rfl) (by rw [HIP.out.2.2.1]; exact fill_one 33 (Value.agg (cellsE1 ⟨⟨#[]⟩, List.replicate 32 0⟩).toArray).cells (cellsE1 en) (cellsE1_len HID.out) (by rfl)) ?_
   try simp only [Act.put, List.setIfInBounds_toArray, List.set_cons_zero, List.set_cons_succ]
   go_wp2_with (with_reducible (show wpList _ _ _ (Oper.mk _ (Op.call (Call.mk (Callee.builtin Builtin.append) _ _)) _ _ _ _ :: _) _ _); refine pause ?_)
   unfold Paused
   have b6 : Below w3.heap.size w3 (w3.alloc (.cells (cellsE1 en).toArray 43)) := (Below.refl _ _).alloc (Nat.le_refl _) _
   have HX6 := Lib.hid (Blk.new w3 43 (cellsE1 en).toArray)
   have HW6 : Hid ((w3.alloc (.cells (cellsE1 en).toArray 43)).ownsRow w2.heap.size 43 33 (.slice Av k cv) k (cellsE ((ss.take k).map (refE f))) ∧ Below w2.heap.size w2 (w3.alloc (.cells (cellsE1 en).toArray 43))) := Lib.hid ⟨HW3.out.1.kept (only_of_below b6 none) (by cases hv : (Value.slice Av k cv).ownBlock with | none => exact Or.inl rfl | some g => exact Or.inr (by simp)), below_next HW3.out.2 b6⟩
   clear b6 HW3
   generalize w3.alloc (.cells (cellsE1 en).toArray 43) = w6 at HX6 HW6 ⊢
   generalize w3.heap.size = g6 at HX6 ⊢
   clear w3
   refine wpList_append_own w6 (by rfl) (.tmp 18) (.tmp 24) 38 (by rfl) w2.heap.size 43 ip (.agg (cellsE1 ⟨⟨#[]⟩, List.replicate 32 0⟩).toArray) 33 48 Tryz.underlying38 HIP.out.1 HIP.out.2.1 HIP.out.2.2.1 HIP.out.2.2.2 (by rfl) (by decide) (.slice Av k cv) k _ (by rfl) HW6.out.1 ⟨g6, 0, none⟩ 1 1 (cellsE1 en) (by rfl) (by rw [cellsE1_len HID.out]) (fun j u hj => by rw [Addr.add_mid, Nat.zero_add, HX6.out.cell j]; simpa using hj) (fun v hv => by
    simp only [cellsE1, cellsB, List.mem_cons, List.mem_map] at hv
    rcases hv with rfl | ⟨q, _, rfl⟩ <;> rfl) (by have := HLT.out; have := HLE.out; have := HN.out; unfold maxLen; omega) (by have := HLT.out; have := HLE.out; have := HN.out; omega) HW6.out.2.size ?_
   intro v7 w7 ho hg _
   have HW7 : Hid (w7.ownsRow w2.heap.size 43 33 v7 (k + 1) (cellsE ((ss.take (k + 1)).map (refE f))) ∧ Below w2.heap.size w2 w7) := Lib.hid ⟨by rw [HVS.out]; exact ho, ⟨hg.os.trans HW6.out.2.os, hg.tape.trans HW6.out.2.tape, hg.output.trans HW6.out.2.output, Nat.le_trans HW6.out.2.size hg.size, fun b hb => (hg.block b (Nat.lt_of_lt_of_le hb HW6.out.2.size) (fun e => by have := (HW6.out.1.lt b e.symm).1; omega)).trans (HW6.out.2.block b hb)⟩⟩
   clear ho hg HW6 HX6
   try simp only [Act.put, List.setIfInBounds_toArray, List.set_cons_zero, List.set_cons_succ]
   go_wp2
   go_roundw
   case rel => exact ⟨k + 1, HLT.out, by go_num, HW7⟩
   case measure => have h5 := HLT.out; simp [intOf]; omega
  ·obtain rfl : k = n := by omega
   have i1 : ¬ ((k : Nat) : Int) < k := by omega
   have HFIN : Hid (RfPost w f (.returned (.slice Av k cv)) wr) := Lib.hid ⟨_, ss, rfl, by
    rw [← HNE.out]
    have h := HW.out.1
    rw [HNE.out, List.take_length] at h
    rw [HNE.out]
    exact own_lower h HB2.out.size, fun x hx => by
     have h := (HM2.out x hx).2
     cases hf : f (txB x) with
     | none => simp [hf] at h
     | some y => exact ⟨y, rfl⟩, HC2.out, below_next HB2.out HW.out.2⟩
   clear HW hk hge
   go_wp2
   go_ret
   exact HFIN.out
def btOf (O : List Nat → Option Cl.T) (k : List Nat) : En.Bt := ⟨(tOf O k).text, (tOf O k).val⟩
def ObsPost (w : World) (g : List Nat → Option (List Nat)) (e : Ending) (w' : World) : Prop :=
 ∃ A c, ∃ ts : List En.Bt, e = .returned (.slice A ts.length c) ∧ BtT w' A ts.length ts ∧ (∀ t ∈ ts, ∃ x, g x = some t.text) ∧ Cnt Id32 g ts.length ∧ Below w.heap.size w w'
set_option maxRecDepth 100000 in
set_option maxHeartbeats 4000000 in
theorem objs_any (r : Nat) (A : Option Addr) (c : Nat) (rf ob : Value) (N M : Nat) (js : List Jt) (O : List Nat → Option Cl.T) (s : Rp.St) (w : World) (h : RpX w r A c rf ob N M js O s) (hj : js.length ≤ 40) :
  Calls Tryz.prog 14 #[.pointer (some ⟨r, 0, none⟩)] w (ObsPost w s.objs) := by
 have CT := texts_any rf ob M O w h.objs h.oT (by have := h.lim; omega)
 have hc9 : w.rangeAt r 9 [rf, ob] := fun j v hj => by
  have h9 := h.rp.refs
  have h10 := h.rp.objs
  match j, hj with
  | 0, hj => injection hj with hj; subst hj; exact h9
  | 1, hj => injection hj with hj; subst hj; exact h10
 have HRG := Lib.hid hc9
 have H := Lib.hid h
 have HJ := Lib.hid hj
 clear h hj hc9
 go_enter Tryz.func14, Tryz.ntmps14
 go_wp2_with (with_reducible (show wpList _ _ _ (Oper.mk _ (Op.load 65 _) _ _ _ _ :: _) _ _); refine pause ?_)
 unfold Paused
 refine wpList_mid_w (by rfl) 65 (.tmp 8) (by rfl) r 9 (by rfl) [rf, ob] _ HRG.out Tryz.underlying65 (by rfl) (by kernel_rfl) ?_
 go_wp2_with (go_at_call 32; refine pause ?_)
 unfold Paused
 refine CT.mono ?_
 rintro e w2 ⟨v2, ks, rfl, hks, ho2, hb2⟩
 obtain ⟨A2, c2, rfl⟩ := own_slice ho2
 obtain ⟨n, hn⟩ : ∃ n, n = ks.length := ⟨_, rfl⟩
 rw [← hn] at ho2 ⊢
 have HNE : Hid (n = (ks.map (btOf O)).length) := Lib.hid (by rw [List.length_map]; exact hn)
 have HKS := Lib.hid hks
 have hmem : ∀ t ∈ ks.map (btOf O), ∃ x p, O x = some p ∧ t = ⟨p.text, p.val⟩ := fun t ht => by
  obtain ⟨k, hk, rfl⟩ := List.mem_map.1 ht
  have h1 := (hks.mem k (hks.id k hk)).1 hk
  unfold btOf tOf
  cases hx : O k with
  | none => simp [hx] at h1
  | some p => exact ⟨k, p, hx, rfl⟩
 have HM := Lib.hid hmem
 have HLE : Hid (n ≤ 50000) := Lib.hid (by
  obtain ⟨d, _, hd, hdm⟩ := H.out.objs.len
  have h1 := (keys_cnt hks).uniq (Rp.cnt_map hd (fun x _ => by simp))
  have := H.out.lim
  have := HJ.out
  omega)
 have HR0 : Hid (CpW w w2 (ks.map (btOf O)) (.slice A2 n c2) ((ks.map (tOf O)).map (·.val)) 0) := Lib.hid ⟨by rw [List.length_map, ← hn]; exact ho2, hb2, fun i _ => by rw [List.map_map, List.map_map]; rfl, fun i _ hi => absurd hi (by omega)⟩
 clear ho2 hb2 hks hn CT hmem
 go_wp2_with fail
 go_loopw [13] (fun i wr => ∃ k : Nat, k ≤ n ∧ i = .int .i64 k ∧ ∃ us, Hid (CpW w wr (ks.map (btOf O)) (.slice A2 n c2) us k)) (fun i _ => n - (intOf i).toNat)
 case atStart => exact ⟨0, Nat.zero_le _, rfl, _, HR0⟩
 case round =>
  obtain ⟨k, hk, rfl, us, HR⟩ := hrel
  clear HR0
  clear w2
  rcases Nat.lt_or_ge k n with hlt | hge
  ·have hkt : k < (ks.map (btOf O)).length := by rw [← HNE.out]; exact hlt
   obtain ⟨g, hA2⟩ : ∃ g, A2 = some ⟨g, 0, none⟩ := by
    rcases HR.out.own.2 with ⟨h', _⟩ | ⟨g', cap', cur, h', _⟩
    ·injection h' with _ e2 _; omega
    ·injection h' with e1 _ _
     exact ⟨g', e1⟩
   subst hA2
   obtain ⟨x, p, hp, htp⟩ := HM.out _ (List.getElem_mem hkt)
   have hrd : Rd w (ks.map (btOf O))[k].val (ks.map (btOf O))[k].text := by rw [htp]; exact (H.out.txt x p hp).rd
   have hsm : (ks.map (btOf O))[k].text.length ≤ 300 := by
    rw [htp]
    exact (H.out.good.objs x p.text (by rw [← H.out.oeq, hp]; rfl)).2.2
   have pc : wr.cell? ⟨g, k, none⟩ = some (ks.map (btOf O))[k].val := by
    have h1 := HR.out.own
    rw [← HNE.out] at h1
    have h2 := h1.cellAt k (by omega)
    rw [h2, HR.out.old k (Nat.le_refl _), List.getElem?_map, List.getElem?_eq_getElem hkt]
    rfl
   have HPUT := Lib.hid (fun (w' : World) (u : Value) (hb : Below wr.heap.size wr w') (hu : CpT w.heap.size w' u (ks.map (btOf O))[k].text) => ((HR.out.below hb).put HNE.out hkt hu))
   generalize (ks.map (btOf O))[k] = t at hrd hsm pc HPUT htp
   obtain ⟨A1', c1', hval⟩ : ∃ A c, t.val = .slice A t.text.length c := by obtain ⟨A, c, h, _⟩ := hrd; exact ⟨A, c, h⟩
   rw [hval] at pc hrd
   have CB := clone_any (.slice A1' t.text.length c1') t.text wr (hrd.below HR.out.bel (Nat.le_refl _)) (by omega)
   obtain ⟨nt, hnt⟩ : ∃ n, n = t.text.length := ⟨_, rfl⟩
   rw [← hnt] at pc CB
   have HNT2 := Lib.hid hnt
   have i1 : ((k : Nat) : Int) < n := by omega
   have i2 : (0 : Int) ≤ ((k : Nat) : Int) := by omega
   have i3 : ((k : Nat) : Int) < 100000 := by have := HLE.out; omega
   have HLT : Hid (k + 1 ≤ n) := Lib.hid hlt
   clear hkt hrd hsm hval hnt hk hlt hp htp
   go_wp2_with (go_at_call 33; refine pause ?_)
   unfold Paused
   refine CB.mono ?_
   rintro e w8 ⟨A9, c9, rfl, hr9, hk9, hb9⟩
   have hct : CpT w.heap.size w8 (.slice A9 nt c9) t.text := ⟨hr9, fun h0 => by
    obtain ⟨g9, cs9, ha9, hg9, hB9⟩ := hk9 (by rw [HNT2.out]; exact h0)
    exact ⟨g9, cs9, c9, by rw [ha9, HNT2.out], Nat.le_trans HR.out.bel.size hg9, hB9⟩⟩
   have HN9 := Lib.hid (HPUT.out w8 (.slice A9 nt c9) hb9 hct)
   have hw8 := HR.out.below hb9
   obtain ⟨cs8, hg8⟩ := own_blk hw8.own (g := g) rfl
   have pq : ∃ x, w8.cell? ⟨g, k, none⟩ = some x := by
    have h1 := hw8.own
    rw [← HNE.out] at h1
    have h2 := h1.cellAt k (by have := HLT.out; omega)
    rw [h2, HR.out.old k (Nat.le_refl _)]
    have : k < ((ks.map (btOf O)).map (·.val)).length := by rw [List.length_map, ← HNE.out]; exact HLT.out
    exact ⟨_, List.getElem?_eq_getElem this⟩
   obtain ⟨x8, p8⟩ := pq
   have f8 := hg8.frozen k
   clear hct hr9 hk9 hb9 hw8 hg8 CB HPUT HR pc
   clear wr
   go_wp2
   go_roundw
   case rel => exact ⟨k + 1, HLT.out, by go_num, _, HN9⟩
   case measure => have h5 := HLT.out; simp [intOf]; omega
  ·obtain rfl : k = n := by omega
   have i1 : ¬ ((k : Nat) : Int) < k := by omega
   have HFIN : Hid (ObsPost w s.objs (.returned (.slice A2 k c2)) wr) := Lib.hid (by
    have h := HR.out
    rw [show k = (ks.map (btOf O)).length from HNE.out] at h
    obtain ⟨ts', h1, h2, h3, h4⟩ := h.all (fun t ht => by
     obtain ⟨x, p, hp, rfl⟩ := HM.out t ht
     exact (H.out.good.objs x p.text (by rw [← H.out.oeq, hp]; rfl)).2.1)
    have hl : ts'.length = k := by
     have := congrArg List.length h1
     rw [List.length_map, List.length_map] at this
     rw [this]; exact HNE.out.symm
    refine ⟨A2, c2, ts', by rw [hl], ?_, fun t ht => ?_, ?_, h.bel⟩
    ·rw [hl, HNE.out]; exact h3
    ·have h5 : t.text ∈ (ks.map (btOf O)).map (·.text) := by rw [← h1]; exact List.mem_map.2 ⟨t, ht, rfl⟩
     obtain ⟨u, hu, hut⟩ := List.mem_map.1 h5
     obtain ⟨x, p, hp, rfl⟩ := HM.out u hu
     exact ⟨x, by rw [← hut, ← H.out.oeq, hp]; rfl⟩
    ·rw [hl, show k = ks.length by have := HNE.out; rw [List.length_map] at this; exact this]
     exact Rp.cnt_map (keys_cnt HKS.out) (fun x _ => by rw [← H.out.oeq x]; simp))
   clear HR hk hge
   go_wp2
   go_ret
   exact HFIN.out
end Go.Proofs.YtgcgomdhdgjpdaaGreatDoor
