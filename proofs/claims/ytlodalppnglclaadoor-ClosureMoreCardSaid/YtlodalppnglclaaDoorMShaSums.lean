/- The walk of a digest (sha.Sum). -/
import Derived.Test.YtlodalppnglclaaDoorMShaEnd
import Derived.Test.YtlodalppnglclaaDoorMShaMixs
import Derived.Lib.SlBytesConst
import Derived.Below
import Derived.ChangeSame
import Derived.ReadAgain
import Derived.ChangeOld
import Derived.RowKit
import Derived.OpenShut
import Derived.Test.YtlodalppnglclaaDoorCards
import Derived.Test.YtlodalppnglclaaDoorTie
import Derived.ProofKit
import Derived.Deep.DeepHandedRow
import Derived.Lib.LaidTab
import Derived.Stop.LaidErr
import Derived.Test.YtlodalppnglclaaDoorMBases
import Derived.ChangeMaps5
import Derived.Carry
import Derived.Test.YtlodalppnglclaaDoorChecked
import Derived.LaidEql
import Derived.LaidLaws
import Derived.Stop.Asserts
import Derived.RowKitTokens
import Derived.Deep.DeepLaidRun
namespace Go.Proofs.YtlodalppnglclaaDoor
open Go Go.RowKit
theorem start_cells : ((((((((Tryd.zeroCells97.setIfInBounds 0 (.int .u32 1779033703)).setIfInBounds 1 (.int .u32 3144134277)).setIfInBounds 2 (.int .u32 1013904242)).setIfInBounds 3 (.int .u32 2773480762)).setIfInBounds 4 (.int .u32 1359893119)).setIfInBounds 5 (.int .u32 2600822924)).setIfInBounds 6 (.int .u32 528734635)).setIfInBounds 7 (.int .u32 1541459225)) = msgC Sha.H0 (List.replicate 64 0) 0 0 := by kernel_rfl
theorem start_one : (((((((((Tryd.zeroCells97.setIfInBounds 0 (.int .u32 1779033703)).setIfInBounds 1 (.int .u32 3144134277)).setIfInBounds 2 (.int .u32 1013904242)).setIfInBounds 3 (.int .u32 2773480762)).setIfInBounds 4 (.int .u32 1359893119)).setIfInBounds 5 (.int .u32 2600822924)).setIfInBounds 6 (.int .u32 528734635)).setIfInBounds 7 (.int .u32 1541459225))).all (·.oneCell') = true := by kernel_rfl
theorem sflat_len : ∀ (l : List (List Nat)) (B : Nat), (∀ ps ∈ l, ps.length ≤ B) → l.flatten.length ≤ l.length * B
  | [], _, _ => by simp
  | a :: l, B, h => by
    have h1 := sflat_len l B (fun ps hp => h ps (List.mem_cons_of_mem _ hp))
    have h2 := h a (List.mem_cons_self)
    rw [List.flatten_cons, List.length_append, List.length_cons, Nat.succ_mul]
    omega
theorem msg_info : (Tryd.prog.info? 97).map (·.size) = some 74 := by kernel_rfl
theorem zeroCells_size : Tryd.zeroCells97.size = 74 := by kernel_rfl
set_option maxRecDepth 100000 in
set_option maxHeartbeats 2000000 in
theorem sum_any (v : Value) (vs : List Value) (pss : List (List Nat)) (w : World) (hv : RdL w v vs) (hl : pss.length = vs.length) (hr : ∀ i u, vs[i]? = some u → Rd w u (pss.getD i [])) (hb : ∀ ps ∈ pss, Sha.Byte ps) (ht : Tabs w)
    (hz1 : vs.length < 1048576) (hz2 : ∀ ps ∈ pss, ps.length ≤ 549755813888) :
    Calls Tryd.prog 33 #[v] w fun e w' => e = .returned (.agg (u8s (Sha.sum pss.flatten))) ∧ Below w.heap.size w w' := by
  obtain ⟨A, c, rfl, hc, hA⟩ := hv
  have c0 : w.cell? ⟨1, 0, none⟩ = some (.int .u32 1779033703) := ht.start 0 (by omega)
  have c1 : w.cell? ⟨1, 1, none⟩ = some (.int .u32 3144134277) := ht.start 1 (by omega)
  have c2 : w.cell? ⟨1, 2, none⟩ = some (.int .u32 1013904242) := ht.start 2 (by omega)
  have c3 : w.cell? ⟨1, 3, none⟩ = some (.int .u32 2773480762) := ht.start 3 (by omega)
  have c4 : w.cell? ⟨1, 4, none⟩ = some (.int .u32 1359893119) := ht.start 4 (by omega)
  have c5 : w.cell? ⟨1, 5, none⟩ = some (.int .u32 2600822924) := ht.start 5 (by omega)
  have c6 : w.cell? ⟨1, 6, none⟩ = some (.int .u32 528734635) := ht.start 6 (by omega)
  have c7 : w.cell? ⟨1, 7, none⟩ = some (.int .u32 1541459225) := ht.start 7 (by omega)
  have hg := ht.big.2
  go_enter Tryd.func33, Tryd.ntmps33
  have HBK : Hid (Blk ((w.alloc (.cells (u8s (List.replicate 32 0)) 37)).alloc (.cells Tryd.zeroCells97 97)) (w.heap.size + 1) 97 Tryd.zeroCells97) := by
    have h := Blk.new (w.alloc (.cells (u8s (List.replicate 32 0)) 37)) 97 Tryd.zeroCells97
    have e : (w.alloc (.cells (u8s (List.replicate 32 0)) 37)).heap.size = w.heap.size + 1 := by simp
    rw [e] at h
    exact Lib.hid h
  have HRS : Hid (Blk ((w.alloc (.cells (u8s (List.replicate 32 0)) 37)).alloc (.cells Tryd.zeroCells97 97)) w.heap.size 37 (u8s (List.replicate 32 0))) := Lib.hid ((Blk.new w _ _).alloc _)
  have HBB : Hid (Below w.heap.size w ((w.alloc (.cells (u8s (List.replicate 32 0)) 37)).alloc (.cells Tryd.zeroCells97 97))) := by
    refine Lib.hid (((Below.refl _ _).alloc (Nat.le_refl _) _).alloc ?_ _); simp
  go_wp2_with (first | (refine wpList_store_row rfl 97 (.tmp 3) (.tmp 7) rfl (w.heap.size + 1) _ rfl rfl 97 _ HBK.out ?_ ?_ ?_ ?_))
  case refine_1 => rw [start_cells]; exact msg_info
  case refine_2 => rw [start_cells]; exact zeroCells_size
  case refine_3 => exact start_one
  rw [start_cells]
  have HM : Hid (Took ((((w.alloc (.cells (u8s (List.replicate 32 0)) 37)).alloc (.cells Tryd.zeroCells97 97))).setRow (w.heap.size + 1) (msgC Sha.H0 (List.replicate 64 0) 0 0)) (w.heap.size + 1) [] 0) :=
    Lib.hid ⟨List.replicate 64 0, ⟨rfl, Sha.Byte.zeros 64, fun i hi => absurd hi (by simp)⟩, ⟨HBK.out.row _, rfl, rfl⟩⟩
  have HRS2 := Lib.hid (HRS.out.farRow (g' := w.heap.size + 1) (by omega) (msgC Sha.H0 (List.replicate 64 0) 0 0))
  have HB2 := Lib.hid (below_row HBB.out (g := w.heap.size + 1) (by omega) (msgC Sha.H0 (List.replicate 64 0) 0 0))
  clear HBK HRS HBB c0 c1 c2 c3 c4 c5 c6 c7
  change Code.wp _ _ _ _ (((w.alloc (.cells (u8s (List.replicate 32 0)) 37)).alloc (.cells Tryd.zeroCells97 97)).setRow (w.heap.size + 1) (msgC Sha.H0 (List.replicate 64 0) 0 0))
  generalize ((w.alloc (.cells (u8s (List.replicate 32 0)) 37)).alloc (.cells Tryd.zeroCells97 97)).setRow (w.heap.size + 1) (msgC Sha.H0 (List.replicate 64 0) 0 0) = w1 at HM HRS2 HB2 ⊢
  generalize msgC Sha.H0 (List.replicate 64 0) 0 0 = mc
  go_loopw [10] (fun i wr => ∃ k : Nat, k ≤ vs.length ∧ i = .int .i64 k ∧ Took wr (w.heap.size + 1) (pss.take k).flatten (pss.take k).flatten.length ∧ Below w.heap.size w wr ∧ ∃ cs, cs.size = 32 ∧ Blk wr w.heap.size 37 cs) (fun i _ => vs.length - (intOf i).toNat)
  case atStart => exact ⟨0, by omega, rfl, HM.out, HB2.out, _, by rw [u8s_size]; rfl, HRS2.out⟩
  case round =>
    obtain ⟨k, hk, rfl, hT, hbel, hres⟩ := hrel
    have HRES := Lib.hid hres
    clear hres
    have hp1 : w.heap.size + 1 ≠ 3 := by have := ht.big.1; omega
    have hp2 : w.heap.size + 1 ≠ 1 := by have := ht.big.2; omega
    have hfl := sflat_len (pss.take k) 549755813888 (fun ps hps => hz2 ps (List.mem_of_mem_take hps))
    rw [List.length_take] at hfl
    by_cases hlt : k < vs.length
    · obtain ⟨b, o, rfl, hbl, hcell⟩ := hA (by omega)
      have hu := hcell k vs[k] (List.getElem?_eq_getElem hlt)
      have hru := hr k vs[k] (List.getElem?_eq_getElem hlt)
      have hbk := hb (pss.getD k []) (by simp [List.getD, show k < pss.length by omega])
      have hzk := hz2 (pss.getD k []) (by simp [List.getD, show k < pss.length by omega])
      have HTK : Hid ((pss.take (k + 1)).flatten = (pss.take k).flatten ++ pss.getD k []) := by
        apply Lib.hid
        rw [List.take_add_one, List.flatten_append]
        congr 1
        simp [List.getD, show k < pss.length by omega]
      generalize vs[k] = u at hu hru
      generalize pss.getD k [] = pk at hru hbk hzk HTK
      have hcu : wr.cell? ⟨b, o + k, none⟩ = some u := (hbel.cell (p := ⟨b, o + k, none⟩) hbl).trans hu
      have i1 : ((k : Nat) : Int) < vs.length := by omega
      have hmin : k * 549755813888 ≤ 1048576 * 549755813888 := Nat.mul_le_mul_right _ (by omega)
      have hfl2 : (pss.take k).flatten.length ≤ k * 549755813888 := Nat.le_trans hfl (Nat.mul_le_mul_right _ (Nat.min_le_left _ _))
      clear hcell hA hfl hu
      go_wp2_with fail
      refine (add_any (w.heap.size + 1) u _ pk wr hT (hru.outB (Nat.le_succ _) hbel) hbk (ht.below hbel (Nat.le_refl _)) hp1 hp2 (by omega)).mono ?_
      rintro e w2 ⟨rfl, hT2, hO2⟩
      have HT2 := Lib.hid hT2
      have hb2 := below_of_only hbel hO2 (by omega)
      clear hT2
      go_wp2_with fail
      go_roundw
      case rel =>
        obtain ⟨cs, hz, hc⟩ := HRES.out
        refine ⟨k + 1, by omega, by go_num, by rw [HTK.out]; exact HT2.out, hb2, cs, hz, hc.grown hO2 (fun e => by injection e; omega)⟩
      case measure => simp [intOf]; omega
    · have HK := Lib.hid (show k = vs.length by omega)
      have hfl2 : (pss.take k).flatten.length ≤ 1048576 * 549755813888 := Nat.le_trans hfl (Nat.mul_le_mul_right _ (by omega))
      clear hfl hA
      go_wp2_with fail
      refine (end_any (w.heap.size + 1) _ wr hT (ht.below hbel (Nat.le_refl _)) hp1 hp2 (by omega)).mono ?_
      rintro e w2 ⟨rfl, hO2⟩
      have hb2 := below_of_only hbel hO2 (by omega)
      have HF : Hid ((pss.take k).flatten = pss.flatten) := by
        apply Lib.hid; rw [HK.out, List.take_of_length_le (by omega)]
      rw [HF.out]
      obtain ⟨cs, hz, hc⟩ := HRES.out
      have HZ := Lib.hid hz
      have HC := Lib.hid (hc.grown hO2 (fun e => by injection e; omega))
      have HL := Lib.hid (show (u8s (Sha.sum pss.flatten)).size = 32 by rw [u8s_size]; exact Sha.join_len _)
      clear hz hc
      go_wp2_with (first | (refine wpList_store_row rfl 37 (.tmp 2) (.tmp 17) rfl w.heap.size _ rfl rfl 37 cs HC.out (by rw [HL.out]; exact oid_info) (by rw [HL.out]; exact HZ.out) (u8s_one _) ?_))
      exact bodyPost_ret (v := .agg (u8s (Sha.sum pss.flatten))) (results_cell_row rfl _ _ w.heap.size 37 _ (0, 0) _ rfl (HC.out.row _) Tryd.underlying37 rfl (by rw [HL.out]; exact oid_info)) rfl ⟨rfl, below_row hb2 (Nat.le_refl _) _⟩
end Go.Proofs.YtlodalppnglclaaDoor
/- The walk of sha.Hex: a digest as 64 figures. -/
namespace Go.Proofs.YtlodalppnglclaaDoor
open Go Go.RowKit
end Go.Proofs.YtlodalppnglclaaDoor
/- The walk of the chapter's example (alive). -/
namespace Go.Proofs.YtlodalppnglclaaDoor
open Go Go.RowKit
end Go.Proofs.YtlodalppnglclaaDoor
/- The last step of a law's row, once for all laws: a call that answers true and leaves every block that stood before as it was meets 'true; each argument reads as it read', whatever the arguments' types are. -/
namespace Go.Proofs.YtlodalppnglclaaDoor
open Go Go.RowKit Go.WideShapes Go.ChangeShapes
section
variable {H : Type} {enc : TypeId × Value → H} {P : Program} {w w' : World}
theorem sameAt_of_below (hb : Below w.heap.size w w') {p : MemPlace} (hp : p.block < w.heap.size) : w.sameAt w' p := by
  cases p with
  | cell b off => exact hb.cell (p := ⟨b, off, none⟩) hp
  | map b => exact hb.block b hp
/-- Arguments that were read are read alike behind a call that keeps the old blocks. -/
theorem all_stay (hb : Below w.heap.size w w') : ∀ {ts : List TypeId} {vs : List Value} {ds : List (DataW H)} {ps : List MemPlace},
    DataW.TrodAll enc P w 0 (fun _ => true) true ts vs ds ps → (∀ p ∈ ps, p.block < w.heap.size) → DataW.TrodAll enc P w' 0 (fun _ => true) true ts vs ds ps
  | [], [], [], _, h, _ => h
  | _ :: _, _ :: _, _ :: _, _, ⟨p, q, ⟨n, h1⟩, h2, e⟩, hs =>
    ⟨p, q, ⟨n, DataW.trod_carry n _ _ _ h1 (fun x hx => sameAt_of_below hb (hs x (by rw [e]; exact List.mem_append_left _ hx)))⟩,
      all_stay hb h2 (fun x hx => hs x (by rw [e]; exact List.mem_append_right _ hx)), e⟩
/-- A law's post. -/
theorem law_post (hlo : laidOutB P = true) (hmr : mapsRowed P = true)
    (hsl : ((List.range P.types.size).all fun t => match P.underlying t with | some (.slice e) => decide (0 < P.cellsOf e) | _ => true) = true)
    {f : Func} {s : ChangeSpec} {tb : TypeId} (hv : s.vars = []) (hrt : f.resultTypes = #[tb]) (htb : P.underlying tb = some .bool) (hT : ∀ t ∈ f.params.toList, t < P.types.size)
    {apart fresh handsOn again : Bool} {args : Array Value} {ds gs : List (DataW H)} {before : List MemPlace}
    (hfn : (s.fn H (ds ++ gs)).results = [.lit (.bool true)] ∧ (s.fn H (ds ++ gs)).args = ds ∧ (s.fn H (ds ++ gs)).vars = [])
    (hW : DataW.Whole enc P f.params.toList s.vars apart w args.toList ds gs before) (hb : Below w.heap.size w w') :
    s.post enc P f apart fresh handsOn again w args (.bool true) w' := by
  have hlt := hW.lt
  have hW0 := hW
  obtain ⟨p, q, h1, h2, he, hz, hn⟩ := hW
  rw [hv] at h2
  obtain ⟨rfl, rfl⟩ : gs = [] ∧ q = [] := by
    cases gs with
    | nil => exact ⟨rfl, h2⟩
    | cons g r => exact h2.elim
  rw [List.append_nil] at he
  subst he
  have hst := all_stay hb h1 hlt
  have hsp := DataW.TrodAll.respare (spare' := fun b => decide (b < w.heap.size)) (kids_rows hlo hmr) (slices_full_of P hsl) hT hst (fun x hx => by simpa using hlt x hx)
  have hres : ∀ (b : Nat) (sp : Nat → Bool) (hd : Bool), DataW.TrodAll enc P w' b sp hd f.resultTypes.toList ((Value.bool true).resultList f.resultTypes.size) (s.fn H (ds ++ [])).results [] := by
    intro b sp hd
    rw [hrt, hfn.1]
    exact trodAll_mk1 (shut_bool htb true)
  refine ⟨ds, [], before, [], before, [], hW0, hres _ _ _, by rw [hfn.2.1]; exact hsp, by rw [hv, hfn.2.2]; rfl, hb.frame _, fun _ => ⟨ok_one hrt rfl (okWide_bool_mk htb true), .lit (.bool true) :: ds, [], before, ⟨before, [], ?_, by rw [hv]; rfl, by simp, ?_, hn⟩, fun x hx _ => hx⟩⟩
  · rw [hrt]
    exact ⟨[], before, shut_bool htb true, hst, by simp⟩
  · intro b off hp
    rw [hb.frozen (p := ⟨b, off, none⟩) (hlt _ hp)]
    exact hz b off hp
end
end Go.Proofs.YtlodalppnglclaaDoor
/- What every law of layer 1 shares at its row: the two tables out of the listed variables, a world for the witness, the last step. -/
namespace Go.Proofs.YtlodalppnglclaaDoor
open Go Go.RowKit Go.WideShapes Go.ChangeShapes Go.ChangeAt
theorem own : ownKnob Tryd.prog.godebug = none := by kernel_rfl
theorem gStart : Tryd.prog.globalNamed "cartage/sha.start" = some 1 := by kernel_rfl
theorem gRounds : Tryd.prog.globalNamed "cartage/sha.rounds" = some 3 := by kernel_rfl
theorem gStartType : (Tryd.prog.globals[1]?).map (·.type) = some 93 := by kernel_rfl
theorem gRoundsType : (Tryd.prog.globals[3]?).map (·.type) = some 113 := by kernel_rfl
theorem cells8 : Tryd.prog.cellsOf 93 = 8 := by kernel_rfl
theorem cells64 : Tryd.prog.cellsOf 113 = 64 := by kernel_rfl
theorem cells1 : Tryd.prog.cellsOf 92 = 1 := by kernel_rfl
theorem list_start : (Rows.laid_cartage_sha_start : DataW Unit) = Lib.tabData .u32 (Sha.H0.map Int.ofNat) := by kernel_rfl
theorem list_rounds : (Rows.laid_cartage_sha_rounds : DataW Unit) = Lib.tabData .u32 (Sha.K.map Int.ofNat) := by kernel_rfl
theorem tabs_of_laid {W : World} (h : laidMet Tryd.prog [("cartage/sha.start", Rows.laid_cartage_sha_start), ("cartage/sha.rounds", Rows.laid_cartage_sha_rounds)] W) : Tabs W := by
  rw [list_start, list_rounds] at h
  have h1 : Lib.TabIs Tryd.prog W "cartage/sha.start" .u32 (Sha.H0.map Int.ofNat) := Lib.tabIs_of_head gStart gStartType Tryd.underlying93 Tryd.underlying92 cells1 cells8 h
  have h2 : Lib.TabIs Tryd.prog W "cartage/sha.rounds" .u32 (Sha.K.map Int.ofNat) := Lib.tabIs_of_head gRounds gRoundsType Tryd.underlying113 Tryd.underlying92 cells1 cells64 h.tail
  have c1 : ∀ i, i < 8 → W.cell? ⟨1, i, none⟩ = some (.int .u32 ((Sha.H0.getD i 0 : Nat) : Int)) := fun i hi => by
    rw [h1.cell gStart i (by simpa [Sha.H0] using hi)]
    simp [List.getD, show i < Sha.H0.length from hi]
  have c2 : ∀ i, i < 64 → W.cell? ⟨3, i, none⟩ = some (.int .u32 ((Sha.K.getD i 0 : Nat) : Int)) := fun i hi => by
    rw [h2.cell gRounds i (by rw [List.length_map]; exact hi)]
    simp [List.getD, show i < Sha.K.length from hi]
  exact ⟨⟨block_lt_of_cell (c2 0 (by omega)), block_lt_of_cell (c1 0 (by omega))⟩, c1, c2⟩
def putCells (cs : Array Value) : Obj → Obj
  | .cells _ t fr => .cells cs t fr
  | o => o
theorem laidOut : laidOutB Tryd.prog = true := by kernel_rfl
theorem mapsRowed_ : mapsRowed Tryd.prog = true := by kernel_rfl
theorem slicesFull : ((List.range Tryd.prog.types.size).all fun t => match Tryd.prog.underlying t with | some (.slice e) => decide (0 < Tryd.prog.cellsOf e) | _ => true) = true := by kernel_rfl
end Go.Proofs.YtlodalppnglclaaDoor
/- Arguments of laws, opened: arrays of bytes, texts. -/
namespace Go.Proofs.YtlodalppnglclaaDoor
open Go Go.RowKit Go.WideShapes Go.ChangeShapes
section
variable {H : Type} {enc : TypeId × Value → H} {P : Program} {W : World} {base : Nat} {sp : Nat → Bool} {held : Bool} {t e : TypeId} {n : Nat}
end
end Go.Proofs.YtlodalppnglclaaDoor
/- errors.Is at the error values of package api, and the walk of cartagenum.Num: the number of such an error. -/
namespace Go.Proofs.YtlodalppnglclaaDoor
open Go Go.RowKit Go.Extern.Stop Go.Stop Go.Extern Go.WideShapes Go.ChangeShapes
/-- an error value's interface value -/
abbrev ev (a : Addr) : Value := .iface 159 (.pointer (some a))
/-- the variables, in the order of the document's table, and their texts -/
def sgs : List Nat := [6, 8, 4, 0, 0, 0, 5, 0, 0, 0, 0, 0, 2, 0, 0, 0, 0, 0, 0, 0, 0, 0]
def stexts : List (List UInt8) := [[97, 32, 110, 117, 109, 98, 101, 114, 32, 105, 115, 32, 111, 117, 116, 32, 111, 102, 32, 105, 116, 115, 32, 114, 97, 110, 103, 101], [115, 111, 109, 101, 116, 104, 105, 110, 103, 32, 105, 115, 32, 109, 105, 115, 115, 105, 110, 103, 32, 97, 116, 32, 116, 104, 101, 32, 101, 110, 100], [116, 104, 101, 114, 101, 32, 105, 115, 32, 109, 111, 114, 101, 32, 116, 104, 97, 110, 32, 109, 97, 121, 32, 98, 101], [105, 116, 32, 105, 115, 32, 110, 111, 116, 32, 111, 102, 32, 105, 116, 115, 32, 102, 111, 114, 109], [116, 104, 101, 32, 115, 117, 109, 32, 105, 115, 32, 110, 111, 116, 32, 114, 105, 103, 104, 116], [105, 116, 32, 105, 115, 32, 110, 111, 32, 114, 105, 103, 104, 116, 32, 110, 97, 109, 101], [105, 116, 32, 105, 115, 32, 111, 102, 32, 97, 110, 111, 116, 104, 101, 114, 32, 107, 105, 110, 100], [105, 116, 32, 103, 111, 101, 115, 32, 116, 111, 111, 32, 100, 101, 101, 112], [97, 110, 32, 111, 98, 106, 101, 99, 116, 32, 105, 115, 32, 109, 105, 115, 115, 105, 110, 103], [97, 32, 114, 101, 102, 32, 105, 115, 32, 110, 111, 116, 32, 119, 104, 97, 116, 32, 119, 97, 115, 32, 101, 120, 112, 101, 99, 116, 101, 100], [116, 104, 101, 32, 100, 105, 115, 107, 32, 104, 97, 115, 32, 110, 111, 32, 114, 111, 111, 109], [116, 104, 101, 32, 113, 117, 101, 117, 101, 32, 104, 97, 115, 32, 110, 111, 32, 114, 111, 111, 109], [105, 116, 32, 105, 115, 32, 116, 111, 111, 32, 108, 97, 114, 103, 101], [116, 104, 101, 114, 101, 32, 105, 115, 32, 110, 111, 32, 115, 117, 99, 104, 32, 114, 101, 112, 111, 115, 105, 116, 111, 114, 121], [116, 104, 101, 114, 101, 32, 105, 115, 32, 115, 117, 99, 104, 32, 97, 32, 114, 101, 112, 111, 115, 105, 116, 111, 114, 121, 32, 97, 108, 114, 101, 97, 100, 121], [105, 116, 32, 105, 115, 32, 110, 111, 116, 32, 97, 118, 97, 105, 108, 97, 98, 108, 101, 32, 110, 111, 119], [110, 111, 98, 111, 100, 121, 32, 97, 110, 115, 119, 101, 114, 101, 100, 32, 105, 110, 32, 116, 105, 109, 101], [116, 104, 101, 32, 101, 112, 111, 99, 104, 32, 105, 115, 32, 110, 111, 116, 32, 116, 104, 101, 32, 99, 117, 114, 114, 101, 110, 116, 32, 111, 110, 101], [105, 116, 32, 99, 97, 110, 32, 110, 111, 116, 32, 98, 101, 32, 100, 111, 110, 101, 32, 105, 110, 32, 116, 104, 105, 115, 32, 115, 116, 97, 116, 101], [105, 116, 32, 105, 115, 32, 116, 104, 101, 114, 101, 32, 97, 108, 114, 101, 97, 100, 121], [116, 104, 101, 114, 101, 32, 105, 115, 32, 110, 111, 110, 101], [116, 104, 101, 114, 101, 32, 97, 114, 101, 32, 97, 115, 32, 109, 97, 110, 121, 32, 97, 115, 32, 109, 97, 121, 32, 98, 101]]
/-- What stands in memory for an error value: its variable, and the block that it points to. -/
structure SentAt (w : World) (g : Nat) (t : List UInt8) (a : Addr) : Prop where
  var : w.cell? ⟨g, 0, none⟩ = some (ev a)
  row : ∃ c tt, w.heap[a.block]? = some (.cells c tt (0, 0))
  txt : ∃ s : ByteArray, w.cell? a = some (.string s) ∧ s.data.toList = t
theorem SentAt.lt {w : World} {g : Nat} {t : List UInt8} {a : Addr} (h : SentAt w g t a) : g < w.heap.size := block_lt_of_cell h.var
theorem SentAt.lt2 {w : World} {g : Nat} {t : List UInt8} {a : Addr} (h : SentAt w g t a) : a.block < w.heap.size := by
  obtain ⟨c, tt, h⟩ := h.row
  exact (Array.getElem?_eq_some_iff.1 h).1
theorem SentAt.below {w w' : World} {g : Nat} {t : List UInt8} {a : Addr} (h : SentAt w g t a) {B : Nat} (hb : Below B w w') (hB : w.heap.size ≤ B) : SentAt w' g t a := by
  have l1 := h.lt
  have l2 := h.lt2
  obtain ⟨c, tt, hr⟩ := h.row
  obtain ⟨s, hs, ht⟩ := h.txt
  exact ⟨(hb.cell (p := ⟨g, 0, none⟩) (by show g < B; omega)).trans h.var, ⟨c, tt, (hb.block a.block (by omega)).trans hr⟩, ⟨s, (hb.cell (p := a) (by omega)).trans hs, ht⟩⟩
theorem SentAt.ne {w : World} {g g' : Nat} {t t' : List UInt8} {a a' : Addr} (h : SentAt w g t a) (h' : SentAt w g' t' a') (ht : t ≠ t') : a ≠ a' := by
  rintro rfl
  obtain ⟨s, hs, e⟩ := h.txt
  obtain ⟨s', hs', e'⟩ := h'.txt
  have := hs.symm.trans hs'
  injection this with this
  injection this with this
  subst this
  exact ht (e.symm.trans e')
/-- All of them. -/
def Sents (w : World) (a : Nat → Addr) : Prop := ∀ k, k < 22 → SentAt w (sgs.getD k 0) (stexts.getD k []) (a k)
theorem Sents.below {w w' : World} {a : Nat → Addr} (h : Sents w a) {B : Nat} (hb : Below B w w') (hB : w.heap.size ≤ B) : Sents w' a := fun k hk => (h k hk).below hb hB
theorem stexts_ne : ∀ j : Fin 22, ∀ k : Fin 22, j ≠ k → stexts.getD j.val [] ≠ stexts.getD k.val [] := by decide +kernel
theorem Sents.ne {w : World} {a : Nat → Addr} (h : Sents w a) {j k : Nat} (hj : j < 22) (hk : k < 22) (hne : j ≠ k) : a j ≠ a k :=
  (h j hj).ne (h k hk) (stexts_ne ⟨j, hj⟩ ⟨k, hk⟩ (fun e => hne (by injection e)))
/-! out of the listed variables -/
theorem laidMet_at {P : Program} : ∀ {l : List (String × DataW Unit)} {w : World} (i : Nat) {x : String × DataW Unit}, laidMet P l w → l[i]? = some x → ∃ r, laidMet P (x :: r) w
  | y :: r, w, 0, x, h, hx => by obtain rfl := Option.some.inj hx; exact ⟨r, h⟩
  | y :: r, w, i + 1, x, h, hx => laidMet_at i h.tail hx
theorem ev_under : Tryd.prog.underlying 159 = some (.pointer 175) := Tryd.underlying159
theorem ev_star : "*" ++ "errors.errorString" = "*errors.errorString" := by decide
theorem ev_row (u : TypeId) (h : Tryd.prog.typeName? 3 u = some "*errors.errorString") : u = 159 :=
  typeName_ptr_named (nm := "errors.errorString") (by rw [ev_star]; kernel_rfl) (by kernel_rfl) (by decide) u (by rw [ev_star]; exact h)
set_option maxRecDepth 100000 in
theorem sent_of_laid {n : String} {text : List UInt8} {r : List (String × DataW Unit)} {W : World} {g : Nat}
    (h : laidMet Tryd.prog ((n, .iface "*errors.errorString" (.ptr (.agg [.lit (.string text)]))) :: r) W)
    (hg : Tryd.prog.globalNamed n = some g) (ht : (Tryd.prog.globals[g]?).map (·.type) = some 45) : ∃ a, SentAt W g text a := by
  obtain ⟨f, hf, hft, hfo⟩ : ∃ f : Field, Tryd.prog.underlying 175 = some (.struct #[f]) ∧ f.type = 9 ∧ f.offset = 0 := ⟨_, Tryd.underlying175, by kernel_rfl, by kernel_rfl⟩
  have hc : Tryd.prog.cellsOf 175 = 1 := by kernel_rfl
  have hcs : Tryd.prog.cellsOf 9 = 1 := by kernel_rfl
  obtain ⟨ps, ⟨g0, t0, cs0, f0, p0, q0, hg0, ht0, hv0, hd0, _, e0⟩, _, hrows⟩ := h
  obtain rfl := Option.some.inj (hg.symm.trans hg0)
  obtain rfl := Option.some.inj (ht.symm.trans ht0)
  subst e0
  have hvar := fun (i : Nat) => World.var?_cell hg0 hv0 i
  obtain ⟨l0⟩ := cs0
  have ok0 : ∀ u v, l0 = [.iface u v] → Value.okWide Tryd.prog W .any 0 u v := fun u v e => by
    subst e
    exact (hrows g 0 (by simp [MemPlace.row])).2 u v (by simpa using World.var?_cell hg0 hv0 0)
  obtain ⟨a0, s0, rfl, hc0, hs0, hz0, rfl⟩ := errorString_of_trod Tryd.underlying45 ev_row ev_under hf hft hfo Tryd.underlying9 hc hcs hd0 ok0
  obtain ⟨c0, tt0, hb0⟩ := (hrows a0.block a0.off (by simp [MemPlace.row])).1
  exact ⟨a0, ⟨by simpa using hvar 0, ⟨c0, tt0, hb0⟩, ⟨s0, hc0, hs0⟩⟩⟩
/-! errors.Is -/
end Go.Proofs.YtlodalppnglclaaDoor
/- What the laws share whose rows list the error values of package api: the sentinels out of 'laid', a world for the witness that has them and the two tables. -/
namespace Go.Proofs.YtlodalppnglclaaDoor
open Go Go.RowKit Go.WideShapes Go.ChangeShapes Go.ChangeAt
noncomputable def lowE : Nat := (World.holding Tryd.prog default ⟨#[], #[], []⟩).heap.size
theorem laidMet_drop {P : Program} {w : World} : ∀ (i : Nat) {l : List (String × DataW Unit)}, laidMet P l w → laidMet P (l.drop i) w
  | 0, _, h => h
  | _ + 1, [], h => h
  | i + 1, _ :: _, h => laidMet_drop i h.tail
/-- One of the error values out of a list. -/
theorem sent_of (W : World) (l : List (String × DataW Unit)) (h : laidMet Tryd.prog l W) (i : Nat) (n : String) (text : List UInt8) (g : Nat)
    (hi : l[i]? = some (n, .iface "*errors.errorString" (.ptr (.agg [.lit (.string text)])))) (hg : Tryd.prog.globalNamed n = some g) (ht : (Tryd.prog.globals[g]?).map (·.type) = some 45) : ∃ a, SentAt W g text a := by
  obtain ⟨r, hr⟩ := laidMet_at i h hi
  exact sent_of_laid hr hg ht
end Go.Proofs.YtlodalppnglclaaDoor
