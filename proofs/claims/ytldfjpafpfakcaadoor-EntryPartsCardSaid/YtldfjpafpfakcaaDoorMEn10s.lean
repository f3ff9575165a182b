/- entry.allOnce: all are right, and no two are told by one text. -/
import Derived.Test.YtldfjpafpfakcaaDoorMNm3s
namespace Go.Proofs.YtldfjpafpfakcaaDoor
open Go Go.RowKit
namespace En
noncomputable def seen (keys : List ByteArray) (i : ByteArray) : Option Value := @ite _ (i ∈ keys) (Classical.propDecidable _) (some (.bool true)) none
theorem seen_yes {keys : List ByteArray} {i : ByteArray} (h : i ∈ keys) : seen keys i = some (.bool true) := if_pos h
theorem seen_no {keys : List ByteArray} {i : ByteArray} (h : i ∉ keys) : seen keys i = none := if_neg h
theorem ref_size {s : ByteArray} (h : Nm.ref s.data.toList = true) : s.size ≤ 24 := by
  unfold Nm.ref at h
  simp only [Bool.and_eq_true, decide_eq_true_iff] at h
  have := h.1.1
  simpa using this
theorem upKey_size {u : Up} (h : (upKey u).2 = true) : (upKey u).1.size ≤ maxLen := by
  unfold upKey at h ⊢
  simp only [Bool.and_eq_true] at h
  have := ref_size h.1
  unfold maxLen
  show u.ref.size ≤ _
  omega
theorem obKey_size {x : List Nat} (h : (obKey x).2 = true) : (obKey x).1.size ≤ maxLen := by
  have h1 := ((objOk_iff x).1 h).1
  unfold maxLen
  show (textOf x).size ≤ _
  rw [textOf_size]
  omega
end En
/-- the map of what was seen, while a list is gone through -/
structure OnW (w wr : World) (l : List (ByteArray × Bool)) (k : Nat) : Prop where
  map : MapS wr w.heap.size k (En.seen ((l.take k).map (·.1)))
  ok : En.once (l.take k) = true
  bel : Below w.heap.size w wr
theorem MapS.ext {w : World} {b n : Nat} {f g : ByteArray → Option Value} (h : MapS w b n f) (e : ∀ i, f i = g i) : MapS w b n g := by rwa [show f = g from funext e] at h
theorem OnW.new (w : World) (l : List (ByteArray × Bool)) : OnW w (w.alloc (.map #[] 0)) l 0 :=
  ⟨(MapS.made w).ext fun i => by rw [List.take_zero]; exact (En.seen_no (by simp)).symm, by rw [List.take_zero]; exact En.once_nil, (Below.refl _ _).alloc (Nat.le_refl _) _⟩
theorem OnW.below {w wr w' : World} {l : List (ByteArray × Bool)} {k : Nat} (h : OnW w wr l k) (hb : Below wr.heap.size wr w') : OnW w w' l k := ⟨h.map.below hb, h.ok, below_next h.bel hb⟩
theorem OnW.put {w wr w' : World} {l : List (ByteArray × Bool)} {k : Nat} {p : ByteArray × Bool} (h : OnW w wr l k) (hk : k < l.length) (hp : l[k] = p) (h1 : p.2 = true) (h2 : p.1 ∉ (l.take k).map (·.1)) (hm : MapS w' w.heap.size (k + 1) (updS (En.seen ((l.take k).map (·.1))) p.1 (some (.bool true)))) (hg : wr.grownBy w' (some w.heap.size)) : OnW w w' l (k + 1) := by
  subst hp
  refine ⟨hm.ext fun i => ?_, ?_, below_of_only h.bel hg (Nat.le_refl _)⟩
  · unfold updS
    rw [List.take_succ_eq_append_getElem hk, List.map_append]
    by_cases hi : i = l[k].1
    · rw [if_pos hi, En.seen_yes (by simp [hi])]
    · rw [if_neg hi]
      by_cases hs : i ∈ (l.take k).map (·.1)
      · rw [En.seen_yes hs, En.seen_yes (List.mem_append_left _ hs)]
      · rw [En.seen_no hs, En.seen_no (fun hm => by
          rcases List.mem_append.1 hm with hm | hm
          · exact hs hm
          · simp at hm; exact hi hm)]
  · rw [List.take_succ_eq_append_getElem hk]
    exact En.once_snoc h.ok h1 h2
theorem once_make (w : World) : (Instr.makeMap 47 none).run Tryd.prog w = .ok (.map (some w.heap.size)) (w.alloc (.map #[] 0)) := by kernel_rfl
theorem once_zero (w : World) : (zeroValue 4).run Tryd.prog w = .ok (.bool false) w := by kernel_rfl
theorem eg_upd (args : Array Value) (w : World) : (callFunc 42 args).run Tryd.prog w = .ok (.enter 42 args) w := by kernel_rfl
theorem eg_ob (args : Array Value) (w : World) : (callFunc 45 args).run Tryd.prog w = .ok (.enter 45 args) w := by kernel_rfl
def zU : Array Value := (cellsU1 ⟨⟨#[]⟩, zid, zid⟩).toArray
theorem zU_size : zU.size = 65 := by kernel_rfl
theorem cellsU1_one (u : En.Up) : (cellsU1 u).toArray.all (·.oneCell') = true := by
  simp [cellsU1, cellsB, Value.oneCell']
theorem upd_load {u : En.Up} (h : u.Fit) : (Tryd.prog.info? 38).map (·.size) = some (cellsU1 u).length := by rw [cellsU1_len h]; kernel_rfl
theorem upd_load2 {u : En.Up} (h : u.Fit) : (Tryd.prog.info? 38).map (·.size) = some (cellsU1 u).toArray.size := by rw [List.size_toArray]; exact upd_load h
set_option maxRecDepth 100000 in
set_option maxHeartbeats 4000000 in
theorem onceU_any (us : List En.Up) (A : Option Addr) (n c : Nat) (w : World) (hx : RdK w (.slice A n c) n (cellsU us)) (hl : n = us.length) (hf : ∀ u ∈ us, u.Fit) (hm : MaxAt w) (hn : n ≤ 1000) :
    Calls Tryd.prog 41 #[.slice A n c, .func (.func 42) #[] #[]] w fun e w' => e = .returned (.bool (En.once (us.map En.upKey))) ∧ Below w.heap.size w w' := by
  have HX := Lib.hid hx
  have HFT := Lib.hid hf
  have HM := Lib.hid hm
  have HL := Lib.hid hl
  have HN := Lib.hid hn
  have mk := once_make w
  have eg := eg_upd
  obtain ⟨ks, hks⟩ : ∃ ks, ks = us.map En.upKey := ⟨_, rfl⟩
  rw [← hks]
  have HKS := Lib.hid hks
  have HW0 := Lib.hid (OnW.new w ks)
  have HLK : Hid (n = ks.length) := Lib.hid (by rw [hks, List.length_map]; exact hl)
  clear hx hl hf hm hn hks
  go_enter Tryd.func41, Tryd.ntmps41
  go_wp2
  generalize w.alloc (.map #[] 0) = w1 at HW0 ⊢
  clear mk
  go_loopw [13] (fun i wr => ∃ k : Nat, k ≤ n ∧ i = .int .i64 k ∧ Hid (OnW w wr ks k)) (fun i _ => n - (intOf i).toNat)
  case atStart => exact ⟨0, Nat.zero_le _, rfl, HW0⟩
  case round =>
    obtain ⟨k, hk, rfl, HW⟩ := hrel
    by_cases hlt : k < n
    · have hki : k < ks.length := by rw [← HLK.out]; exact hlt
      have hkl : k < us.length := by rw [← HL.out]; exact hlt
      have HKI := Lib.hid hki
      have i1 : ((k : Nat) : Int) < n := by omega
      have i2 : (0 : Int) ≤ ((k : Nat) : Int) := by omega
      have i3 : ((k : Nat) : Int) < 1000 := by have := HN.out; omega
      have hxx := HX.out
      rw [HL.out] at hxx
      obtain ⟨b, o, rfl, hbl, hrg⟩ := hxx.up rfl HFT.out hkl
      have hke : ks[k]'(HKI.out) = En.upKey us[k] := (List.getElem_of_eq HKS.out HKI.out).trans (by simp)
      have hft := HFT.out _ (List.getElem_mem hkl)
      generalize us[k] = u at hrg hke hft
      have HFU := Lib.hid hft
      have HKE := Lib.hid hke
      have HRG : Hid (wr.rangeAt b (o + k * 65) (cellsU1 u)) := Lib.hid (fun j v hj => (HW.out.bel.cell (p := ⟨b, o + k * 65 + j, none⟩) hbl).trans (hrg j v hj))
      clear hki hkl hxx hbl hrg hke hft hk hlt
      go_wp2_with (with_reducible (show wpList _ _ _ (Oper.mk _ (Op.load 38 _) _ _ _ _ :: _) _ _); refine pause ?_)
      unfold Paused
      refine wpList_mid_w (by rfl) 38 (.tmp 15) (by rfl) b (o + k * 65) (by rfl) (cellsU1 u) _ HRG.out Tryd.underlying38 (by rfl) (upd_load HFU.out) ?_
      go_wp2_with (with_reducible (show wpList _ _ _ (Oper.mk _ (Op.store 38 _ _) _ _ _ _ :: _) _ _); refine pause ?_)
      unfold Paused
      change wpList _ _ _ _ _ (wr.alloc (.cells zU 38))
      refine wpList_store_row (by rfl) 38 (.tmp 7) (.tmp 16) (by rfl) wr.heap.size (cellsU1 u).toArray (by rfl) (by rfl) 38 zU (Blk.new wr _ _) (upd_load2 HFU.out) (by rw [zU_size, List.size_toArray, cellsU1_len HFU.out]) (cellsU1_one u) ?_
      have b6 : Below wr.heap.size wr ((wr.alloc (.cells zU 38)).setRow wr.heap.size (cellsU1 u).toArray) := below_row ((Below.refl _ _).alloc (Nat.le_refl _) _) (Nat.le_refl _) _
      have HW6 := Lib.hid (HW.out.below b6)
      have HI6 : Hid (Blk ((wr.alloc (.cells zU 38)).setRow wr.heap.size (cellsU1 u).toArray) wr.heap.size 38 (cellsU1 u).toArray) := Lib.hid ((Blk.new wr _ _).row _)
      clear b6 HRG
      generalize (wr.alloc (.cells zU 38)).setRow wr.heap.size (cellsU1 u).toArray = w6 at HW6 HI6 ⊢
      generalize wr.heap.size = g6 at HI6 ⊢
      simp only [Act.put]
      go_wp2_with (with_reducible (show wpList _ _ _ (Oper.mk _ (Op.load 38 _) _ _ _ _ :: _) _ _); refine pause ?_)
      unfold Paused
      refine wpList_row_w (by rfl) 38 (.tmp 7) (by rfl) g6 (by rfl) 38 (cellsU1 u).toArray _ HI6.out Tryd.underlying38 (by rfl) (upd_load2 HFU.out) ?_
      have CC := upd1_any u HFU.out w6 (HM.out.below HW6.out.bel (Nat.le_refl _))
      have HSZ := Lib.hid (En.upKey_size (u := u))
      rw [show u.ref = (En.upKey u).1 from rfl] at CC
      go_wp2_with (go_at_call 42; refine pause ?_)
      unfold Paused
      refine CC.mono ?_
      rintro e w7 ⟨rfl, hb7⟩
      have HW7 := Lib.hid (HW6.out.below hb7)
      clear hb7 CC
      generalize En.upKey u = p at HKE HSZ ⊢
      obtain ⟨tx, rt⟩ := p
      dsimp only at HSZ ⊢
      cases rt
      · have HF : Hid (En.once ks = false) := Lib.hid (En.once_bad HKI.out (by rw [HKE.out]))
        clear HSZ
        go_wp2
        go_ret
        exact ⟨by rw [HF.out]; rfl, HW7.out.bel⟩
      have hsz := HSZ.out rfl
      have q7 := HW7.out.map.look (t := 47) (e := 4) Tryd.underlying47 (once_zero w7) hsz
      rcases Classical.em (tx ∈ (ks.take k).map (·.1)) with hs | hs
      · rw [En.seen_yes hs] at q7
        have HF : Hid (En.once ks = false) := Lib.hid (En.once_twice HKI.out (by rw [HKE.out]; exact hs))
        simp only [Option.getD_some] at q7
        clear HSZ hs hsz
        go_wp2
        go_ret
        exact ⟨by rw [HF.out]; rfl, HW7.out.bel⟩
      · rw [En.seen_no hs] at q7
        simp only [Option.getD_none] at q7
        obtain ⟨w8, hrun, hm8, hg8⟩ := HW7.out.map.store (t := 47) (e := 4) Tryd.underlying47 (by have := HN.out; unfold maxLen; omega) hsz (.bool true)
        have HW8 : Hid (OnW w w8 ks (k + 1)) := Lib.hid (HW7.out.put HKI.out HKE.out rfl hs hm8 hg8)
        have HLT : Hid (k + 1 ≤ n) := Lib.hid (by rw [HLK.out]; exact HKI.out)
        clear HSZ hs hsz hm8 hg8
        go_wp2
        go_roundw
        case rel => exact ⟨k + 1, HLT.out, by go_num, HW8⟩
        case measure => have h5 := HLT.out; simp [intOf]; omega
    · obtain rfl : k = n := by omega
      have HF : Hid (En.once ks = true) := Lib.hid (by have h := HW.out.ok; rwa [HLK.out, List.take_length] at h)
      have ik : ¬ ((k : Nat) : Int) < k := by omega
      clear hk hlt
      go_wp2
      go_ret
      exact ⟨by rw [HF.out]; rfl, HW.out.bel⟩
set_option maxRecDepth 100000 in
set_option maxHeartbeats 4000000 in
theorem onceT_any (ts : List En.Bt) (A : Option Addr) (n c : Nat) (a : Nat → Addr) (w : World) (hx : BtT w A n ts) (hS : ESents w a) (hn : n ≤ 1000) :
    Calls Tryd.prog 44 #[.slice A n c, .func (.func 45) #[] #[]] w fun e w' => e = .returned (.bool (En.once ((ts.map (·.text)).map En.obKey))) ∧ Below w.heap.size w w' := by
  have hl := hx.len
  have HX := Lib.hid hx
  have HS := Lib.hid hS
  have HL := Lib.hid hl
  have HN := Lib.hid hn
  have mk := once_make w
  have eg := eg_ob
  obtain ⟨ks, hks⟩ : ∃ ks, ks = (ts.map (·.text)).map En.obKey := ⟨_, rfl⟩
  rw [← hks]
  have HKS := Lib.hid hks
  have HW0 := Lib.hid (OnW.new w ks)
  have HLK : Hid (n = ks.length) := Lib.hid (by rw [hks, List.length_map, List.length_map]; exact hl)
  clear hx hl hS hn hks
  go_enter Tryd.func44, Tryd.ntmps44
  go_wp2
  generalize w.alloc (.map #[] 0) = w1 at HW0 ⊢
  clear mk
  go_loopw [13] (fun i wr => ∃ k : Nat, k ≤ n ∧ i = .int .i64 k ∧ Hid (OnW w wr ks k)) (fun i _ => n - (intOf i).toNat)
  case atStart => exact ⟨0, Nat.zero_le _, rfl, HW0⟩
  case round =>
    obtain ⟨k, hk, rfl, HW⟩ := hrel
    by_cases hlt : k < n
    · have hki : k < ks.length := by rw [← HLK.out]; exact hlt
      have hkl : k < ts.length := by rw [← HL.out]; exact hlt
      have HKI := Lib.hid hki
      have i1 : ((k : Nat) : Int) < n := by omega
      have i2 : (0 : Int) ≤ ((k : Nat) : Int) := by omega
      have i3 : ((k : Nat) : Int) < 1000 := by have := HN.out; omega
      obtain ⟨b, o, rfl, hbl, hcell⟩ := HX.out.row (by omega)
      have pc := (HW.out.bel.cell (p := ⟨b, o + k, none⟩) hbl).trans (hcell k _ (List.getElem?_eq_getElem hkl))
      obtain ⟨hrd, hby⟩ := HX.out.rd _ (List.getElem_mem hkl)
      have hke : ks[k]'(HKI.out) = En.obKey ts[k].text := (List.getElem_of_eq HKS.out HKI.out).trans (by simp)
      generalize ts[k] = t at pc hrd hby hke
      obtain ⟨A1, c1, hval⟩ : ∃ A1 c1, t.val = .slice A1 t.text.length c1 := by obtain ⟨A1, c1, h, _⟩ := hrd; exact ⟨A1, c1, h⟩
      rw [hval] at pc hrd
      have CC := obj1_any A1 t.text.length c1 t.text _ wr (hrd.below HW.out.bel (Nat.le_refl _)) hby (HS.out.at_ HW.out.bel)
      have HKE := Lib.hid hke
      have HSZ := Lib.hid (En.obKey_size (x := t.text))
      rw [show textOf t.text = (En.obKey t.text).1 from rfl, show En.objOk t.text = (En.obKey t.text).2 from rfl] at CC
      obtain ⟨n1, hn1⟩ : ∃ n, n = t.text.length := ⟨_, rfl⟩
      rw [← hn1] at pc CC
      have HW6 := HW
      clear hki hkl hbl hcell hrd hby hke hval hn1 hk hlt
      go_wp2_with (go_at_call 45; refine pause ?_)
      unfold Paused
      refine CC.mono ?_
      rintro e w7 ⟨rfl, hb7⟩
      have HW7 := Lib.hid (HW6.out.below hb7)
      clear hb7 CC
      generalize En.obKey t.text = p at HKE HSZ ⊢
      obtain ⟨tx, rt⟩ := p
      dsimp only at HSZ ⊢
      cases rt
      · have HF : Hid (En.once ks = false) := Lib.hid (En.once_bad HKI.out (by rw [HKE.out]))
        clear HSZ
        go_wp2
        go_ret
        exact ⟨by rw [HF.out]; rfl, HW7.out.bel⟩
      have hsz := HSZ.out rfl
      have q7 := HW7.out.map.look (t := 47) (e := 4) Tryd.underlying47 (once_zero w7) hsz
      rcases Classical.em (tx ∈ (ks.take k).map (·.1)) with hs | hs
      · rw [En.seen_yes hs] at q7
        have HF : Hid (En.once ks = false) := Lib.hid (En.once_twice HKI.out (by rw [HKE.out]; exact hs))
        simp only [Option.getD_some] at q7
        clear HSZ hs hsz
        go_wp2
        go_ret
        exact ⟨by rw [HF.out]; rfl, HW7.out.bel⟩
      · rw [En.seen_no hs] at q7
        simp only [Option.getD_none] at q7
        obtain ⟨w8, hrun, hm8, hg8⟩ := HW7.out.map.store (t := 47) (e := 4) Tryd.underlying47 (by have := HN.out; unfold maxLen; omega) hsz (.bool true)
        have HW8 : Hid (OnW w w8 ks (k + 1)) := Lib.hid (HW7.out.put HKI.out HKE.out rfl hs hm8 hg8)
        have HLT : Hid (k + 1 ≤ n) := Lib.hid (by rw [HLK.out]; exact HKI.out)
        clear HSZ hs hsz hm8 hg8
        go_wp2
        go_roundw
        case rel => exact ⟨k + 1, HLT.out, by go_num, HW8⟩
        case measure => have h5 := HLT.out; simp [intOf]; omega
    · obtain rfl : k = n := by omega
      have HF : Hid (En.once ks = true) := Lib.hid (by have h := HW.out.ok; rwa [HLK.out, List.take_length] at h)
      have ik : ¬ ((k : Nat) : Int) < k := by omega
      clear hk hlt
      go_wp2
      go_ret
      exact ⟨by rw [HF.out]; rfl, HW.out.bel⟩
end Go.Proofs.YtldfjpafpfakcaaDoor
/- Is an entry right, but for its length: entry.Updates, entry.objects, entry.formed. -/
namespace Go.Proofs.YtldfjpafpfakcaaDoor
open Go Go.RowKit
set_option maxRecDepth 100000 in
set_option maxHeartbeats 1000000 in
theorem updates_any (us : List En.Up) (A : Option Addr) (n c : Nat) (w : World) (hx : RdK w (.slice A n c) n (cellsU us)) (hl : n = us.length) (hf : ∀ u ∈ us, u.Fit) (hm : MaxAt w) (hn : n ≤ 1000) :
    Calls Tryd.prog 25 #[.slice A n c] w fun e w' => e = .returned (.bool (En.upsOk us)) ∧ Below w.heap.size w w' := by
  have CO := onceU_any us A n c w hx hl hf hm hn
  have HK : Hid (En.upsOk us = (decide (1 ≤ n) && (decide (n ≤ 8) && En.once (us.map En.upKey)))) := Lib.hid (by rw [hl]; rfl)
  clear hx hl hf hm
  by_cases h1 : n < 1
  · have i1 : (n : Int) < 1 := by omega
    have HF : Hid (En.upsOk us = false) := Lib.hid (by rw [HK.out, decide_eq_false (by omega)]; rfl)
    clear h1 CO
    go_enter Tryd.func25, Tryd.ntmps25
    go_wp2
    go_ret
    exact ⟨by rw [HF.out]; rfl, Below.refl _ _⟩
  have i1 : ¬ (n : Int) < 1 := by omega
  by_cases h2 : 8 < n
  · have i2 : (8 : Int) < (n : Int) := by omega
    have HF : Hid (En.upsOk us = false) := Lib.hid (by rw [HK.out, decide_eq_false (show ¬ n ≤ 8 by omega)]; simp)
    clear h1 h2 CO
    go_enter Tryd.func25, Tryd.ntmps25
    go_wp2
    go_ret
    exact ⟨by rw [HF.out]; rfl, Below.refl _ _⟩
  have i2 : ¬ (8 : Int) < (n : Int) := by omega
  have HF : Hid (En.upsOk us = En.once (us.map En.upKey)) := Lib.hid (by rw [HK.out, decide_eq_true (show 1 ≤ n by omega), decide_eq_true (show n ≤ 8 by omega)]; rfl)
  generalize En.once (us.map En.upKey) = r at HF CO
  clear h1 h2 hn
  go_enter Tryd.func25, Tryd.ntmps25
  go_wp2_with (go_at_call 41; refine pause ?_)
  unfold Paused
  refine CO.mono ?_
  rintro e w' ⟨rfl, hb⟩
  have HB := Lib.hid hb
  clear hb CO
  go_wp2
  go_ret
  exact ⟨by rw [HF.out]; rfl, HB.out⟩
set_option maxRecDepth 100000 in
set_option maxHeartbeats 1000000 in
theorem objects_any (ts : List En.Bt) (A : Option Addr) (n c : Nat) (a : Nat → Addr) (w : World) (hx : BtT w A n ts) (hS : ESents w a) :
    Calls Tryd.prog 26 #[.slice A n c] w fun e w' => e = .returned (.bool (En.objsOk (ts.map (·.text)))) ∧ Below w.heap.size w w' := by
  have HK : Hid (En.objsOk (ts.map (·.text)) = (decide (n ≤ 64) && En.once ((ts.map (·.text)).map En.obKey))) := Lib.hid (by unfold En.objsOk; rw [List.length_map, ← hx.len])
  by_cases h2 : 64 < n
  · have i2 : (64 : Int) < (n : Int) := by omega
    have HF : Hid (En.objsOk (ts.map (·.text)) = false) := Lib.hid (by rw [HK.out, decide_eq_false (show ¬ n ≤ 64 by omega)]; rfl)
    clear h2 hx
    go_enter Tryd.func26, Tryd.ntmps26
    go_wp2
    go_ret
    exact ⟨by rw [HF.out]; rfl, Below.refl _ _⟩
  have i2 : ¬ (64 : Int) < (n : Int) := by omega
  have CO := onceT_any ts A n c a w hx hS (by omega)
  have HF : Hid (En.objsOk (ts.map (·.text)) = En.once ((ts.map (·.text)).map En.obKey)) := Lib.hid (by rw [HK.out, decide_eq_true (show n ≤ 64 by omega)]; rfl)
  generalize En.once ((ts.map (·.text)).map En.obKey) = r at HF CO
  clear h2 hx
  go_enter Tryd.func26, Tryd.ntmps26
  go_wp2_with (go_at_call 44; refine pause ?_)
  unfold Paused
  refine CO.mono ?_
  rintro e w' ⟨rfl, hb⟩
  have HB := Lib.hid hb
  clear hb CO
  go_wp2
  go_ret
  exact ⟨by rw [HF.out]; rfl, HB.out⟩
/-- an entry in a box of its own -/
structure EnB (w w1 : World) (e : En.E) (ca : Array Value) (U : Option Addr) (cu : Nat) (O : Option Addr) (co : Nat) (ts : List En.Bt) : Prop where
  bel : Below w.heap.size w w1
  box : Blk w1 w.heap.size 25 ca
  ent : EnC w1 e ca U cu O co ts
theorem EnB.of {w : World} {e : En.E} {ca : Array Value} {U O : Option Addr} {cu co : Nat} {ts : List En.Bt} (h : EnC w e ca U cu O co ts) : EnB w (w.alloc (.cells ca 25)) e ca U cu O co ts :=
  ⟨(Below.refl _ _).alloc (Nat.le_refl _) _, Blk.new w _ _, h.below ((Below.refl _ _).alloc (Nat.le_refl _) _)⟩
section
variable {w w1 w2 : World} {e : En.E} {ca : Array Value} {U O : Option Addr} {cu co : Nat} {ts : List En.Bt}
theorem EnB.below (h : EnB w w1 e ca U cu O co ts) (hb : Below w1.heap.size w1 w2) : EnB w w2 e ca U cu O co ts := ⟨below_next h.bel hb, h.box.below hb h.box.lt, h.ent.below hb⟩
theorem EnB.c0 (h : EnB w w1 e ca U cu O co ts) : w1.cell? ⟨w.heap.size, 0, none⟩ = some (.int .i64 e.client) := (h.box.cell 0).trans (by rw [h.ent.cells]; rfl)
theorem EnB.c1 (h : EnB w w1 e ca U cu O co ts) : w1.cell? ⟨w.heap.size, 1, none⟩ = some (.int .i64 e.number) := (h.box.cell 1).trans (by rw [h.ent.cells]; rfl)
theorem EnB.c2 (h : EnB w w1 e ca U cu O co ts) : w1.cell? ⟨w.heap.size, 2, none⟩ = some (.int .i64 e.answer) := (h.box.cell 2).trans (by rw [h.ent.cells]; rfl)
theorem EnB.c3 (h : EnB w w1 e ca U cu O co ts) : w1.cell? ⟨w.heap.size, 3, none⟩ = some (.slice U e.ups.length cu) := (h.box.cell 3).trans (by rw [h.ent.cells]; rfl)
theorem EnB.c4 (h : EnB w w1 e ca U cu O co ts) : w1.cell? ⟨w.heap.size, 4, none⟩ = some (.slice O e.objs.length co) := (h.box.cell 4).trans (by rw [h.ent.cells]; rfl)
theorem EnC.size (h : EnC w e ca U cu O co ts) : ca.size = 5 := by rw [h.cells]; rfl
theorem EnC.one (h : EnC w e ca U cu O co ts) : ca.all (·.oneCell') = true := by rw [h.cells]; simp [Value.oneCell']
theorem EnC.nobj (h : EnC w e ca U cu O co ts) : e.objs.length = ts.length := by rw [← h.txt, List.length_map]
end
theorem ent_load {ca : Array Value} (h : ca.size = 5) : (Tryd.prog.info? 25).map (·.size) = some ca.size := by rw [h]; kernel_rfl
set_option maxRecDepth 100000 in
set_option maxHeartbeats 4000000 in
theorem formed_any (e : En.E) (ca : Array Value) (U O : Option Addr) (cu co : Nat) (ts : List En.Bt) (a : Nat → Addr) (w : World) (h : EnC w e ca U cu O co ts) (hS : ESents w a) (hm : MaxAt w) (hn : e.ups.length ≤ 1000) :
    Calls Tryd.prog 21 #[.agg ca] w fun r w' => r = .returned (.bool (En.formed e)) ∧ Below w.heap.size w w' := by
  obtain ⟨w1, hw1⟩ : ∃ w1, w1 = w.alloc (.cells ca 25) := ⟨_, rfl⟩
  have hb : EnB w w1 e ca U cu O co ts := hw1 ▸ EnB.of h
  have p0 := hb.c0
  have p1 := hb.c1
  have p2 := hb.c2
  have p3 := hb.c3
  have p4 := hb.c4
  have CU := updates_any e.ups U e.ups.length cu w1 hb.ent.ups rfl hb.ent.fit (hm.below hb.bel (Nat.le_refl _)) hn
  have CO : ∀ w2, Below w1.heap.size w1 w2 → Calls Tryd.prog 26 #[.slice O e.objs.length co] w2 _ := fun w2 h2 => objects_any ts O e.objs.length co a w2 (by have := (hb.below h2).ent.objs; exact this) (hS.at_ (hb.below h2).bel)
  rw [h.txt] at CO
  have HB := Lib.hid hb.bel
  have HP4 := Lib.hid (fun w2 (h2 : Below w1.heap.size w1 w2) => (hb.below h2).c4)
  have HK : Hid (En.formed e = (decide (0 ≤ e.client) && (decide (e.client < 8) && (decide (1 ≤ e.number) && (decide (e.number ≤ 1099511627776) && (decide (0 ≤ e.answer) && (decide (e.answer ≤ 10) && (if e.answer = 0 then En.upsOk e.ups && En.objsOk e.objs else decide (e.ups.length = 0) && decide (e.objs.length = 0))))))))) := Lib.hid rfl
  have e1 := hw1.symm
  generalize En.formed e = R at HK ⊢
  generalize En.upsOk e.ups = r1 at HK CU
  generalize En.objsOk e.objs = r2 at HK CO
  generalize e.ups.length = nu at HK p3 CU hn
  generalize e.objs.length = no at HK p4 CO HP4
  generalize e.client = x at HK p0
  generalize e.number = y at HK p1
  generalize e.answer = z at HK p2
  clear h hS hm hb hw1
  go_enter Tryd.func21, Tryd.ntmps21
  by_cases h1 : x < 0
  · skip
    have HF : Hid (R = false) := Lib.hid (by rw [HK.out, decide_eq_false (show ¬ 0 ≤ x by omega)]; simp)
    clear CU CO HP4 p1 p2 p3 p4
    go_wp2
    go_ret
    exact ⟨by rw [HF.out]; rfl, HB.out⟩
  by_cases h2 : 8 ≤ x
  · skip
    have HF : Hid (R = false) := Lib.hid (by rw [HK.out, decide_eq_false (show ¬ x < 8 by omega)]; simp)
    clear CU CO HP4 p1 p2 p3 p4
    go_wp2
    go_ret
    exact ⟨by rw [HF.out]; rfl, HB.out⟩
  by_cases h3 : y < 1
  · skip
    have HF : Hid (R = false) := Lib.hid (by rw [HK.out, decide_eq_false (show ¬ 1 ≤ y by omega)]; simp)
    clear CU CO HP4 p2 p3 p4
    go_wp2
    go_ret
    exact ⟨by rw [HF.out]; rfl, HB.out⟩
  by_cases h4 : 1099511627776 < y
  · skip
    have HF : Hid (R = false) := Lib.hid (by rw [HK.out, decide_eq_false (show ¬ y ≤ 1099511627776 by omega)]; simp)
    clear CU CO HP4 p2 p3 p4
    go_wp2
    go_ret
    exact ⟨by rw [HF.out]; rfl, HB.out⟩
  by_cases h5 : z < 0
  · skip
    have HF : Hid (R = false) := Lib.hid (by rw [HK.out, decide_eq_false (show ¬ 0 ≤ z by omega)]; simp)
    clear CU CO HP4 p3 p4
    go_wp2
    go_ret
    exact ⟨by rw [HF.out]; rfl, HB.out⟩
  by_cases h6 : 10 < z
  · skip
    have HF : Hid (R = false) := Lib.hid (by rw [HK.out, decide_eq_false (show ¬ z ≤ 10 by omega)]; simp)
    clear CU CO HP4 p3 p4
    go_wp2
    go_ret
    exact ⟨by rw [HF.out]; rfl, HB.out⟩
  have HF : Hid (R = (if z = 0 then r1 && r2 else decide (nu = 0) && decide (no = 0))) := Lib.hid (by
    rw [HK.out, decide_eq_true (show 0 ≤ x by omega), decide_eq_true (show x < 8 by omega), decide_eq_true (show 1 ≤ y by omega), decide_eq_true (show y ≤ 1099511627776 by omega), decide_eq_true (show 0 ≤ z by omega), decide_eq_true (show z ≤ 10 by omega)]
    simp)
  by_cases hz : z = 0
  · have b0 : (z != 0) = false := by simp [hz]
    have HF2 : Hid (R = (r1 && r2)) := Lib.hid (by rw [HF.out, if_pos hz])
    clear hz HF HK
    go_wp2_with (go_at_call 25; refine pause ?_)
    unfold Paused
    refine CU.mono ?_
    rintro r w2 ⟨rfl, hb2⟩
    have HB2 := Lib.hid (below_next HB.out hb2)
    have p4b := HP4.out w2 hb2
    have CO2 := CO w2 hb2
    clear CU CO hb2 HP4 p0 p1 p2 p3 p4
    cases r1
    · go_wp2
      go_ret
      exact ⟨by rw [HF2.out]; rfl, HB2.out⟩
    · skip
      go_wp2_with (go_at_call 26; refine pause ?_)
      unfold Paused
      refine CO2.mono ?_
      rintro r w3 ⟨rfl, hb3⟩
      have HB3 := Lib.hid (below_next HB2.out hb3)
      clear CO2 hb3
      go_wp2
      go_ret
      exact ⟨by rw [HF2.out]; rfl, HB3.out⟩
  · have b0 : (z != 0) = true := by simp [hz]
    have HF2 : Hid (R = (decide (nu = 0) && decide (no = 0))) := Lib.hid (by rw [HF.out, if_neg hz])
    clear hz HF HK CU CO HP4
    by_cases hu : nu = 0
    · have bu : ((nu : Int) == 0) = true := by simp [hu]
      by_cases ho : no = 0
      · have bo : ((no : Int) == 0) = true := by simp [ho]
        have HF3 : Hid (R = true) := Lib.hid (by rw [HF2.out, decide_eq_true hu, decide_eq_true ho]; rfl)
        clear hu ho HF2
        go_wp2
        go_ret
        exact ⟨by rw [HF3.out]; rfl, HB.out⟩
      · have bo : ((no : Int) == 0) = false := by simp [ho]
        have HF3 : Hid (R = false) := Lib.hid (by rw [HF2.out, decide_eq_false ho]; simp)
        clear hu ho HF2
        go_wp2
        go_ret
        exact ⟨by rw [HF3.out]; rfl, HB.out⟩
    · have bu : ((nu : Int) == 0) = false := by simp [hu]
      have HF3 : Hid (R = false) := Lib.hid (by rw [HF2.out, decide_eq_false hu]; rfl)
      clear hu HF2
      go_wp2
      go_ret
      exact ⟨by rw [HF3.out]; rfl, HB.out⟩
end Go.Proofs.YtldfjpafpfakcaaDoor
