/- The walk of a digest (sha.Sum). -/
import Derived.Test.YtcnedkgadfegbaaDoorMShaEnd
import Derived.Test.YtcnedkgadfegbaaDoorMShaJoins
import Derived.Lib.SlBytesConst
import Derived.Below
import Derived.ChangeSame
import Derived.ReadAgain
import Derived.ChangeOld
import Derived.RowKit
import Derived.OpenShut
import Derived.Test.YtcnedkgadfegbaaDoorCards
import Derived.Test.YtcnedkgadfegbaaDoorTie
import Derived.ProofKit
import Derived.Deep.DeepHandedRow
import Derived.Lib.LaidTab
import Derived.Stop.LaidErr
import Derived.Test.YtcnedkgadfegbaaDoorMBases
import Derived.ChangeMaps5
import Derived.Carry
namespace Go.Proofs.YtcnedkgadfegbaaDoor
open Go Go.RowKit
theorem start_cells : ((((((((Tryd.zeroCells128.setIfInBounds 0 (.int .u32 1779033703)).setIfInBounds 1 (.int .u32 3144134277)).setIfInBounds 2 (.int .u32 1013904242)).setIfInBounds 3 (.int .u32 2773480762)).setIfInBounds 4 (.int .u32 1359893119)).setIfInBounds 5 (.int .u32 2600822924)).setIfInBounds 6 (.int .u32 528734635)).setIfInBounds 7 (.int .u32 1541459225)) = msgC Sha.H0 (List.replicate 64 0) 0 0 := by kernel_rfl
theorem start_one : (((((((((Tryd.zeroCells128.setIfInBounds 0 (.int .u32 1779033703)).setIfInBounds 1 (.int .u32 3144134277)).setIfInBounds 2 (.int .u32 1013904242)).setIfInBounds 3 (.int .u32 2773480762)).setIfInBounds 4 (.int .u32 1359893119)).setIfInBounds 5 (.int .u32 2600822924)).setIfInBounds 6 (.int .u32 528734635)).setIfInBounds 7 (.int .u32 1541459225))).all (·.oneCell') = true := by kernel_rfl
theorem sflat_len : ∀ (l : List (List Nat)) (B : Nat), (∀ ps ∈ l, ps.length ≤ B) → l.flatten.length ≤ l.length * B
  | [], _, _ => by simp
  | a :: l, B, h => by
    have h1 := sflat_len l B (fun ps hp => h ps (List.mem_cons_of_mem _ hp))
    have h2 := h a (List.mem_cons_self)
    rw [List.flatten_cons, List.length_append, List.length_cons, Nat.succ_mul]
    omega
theorem msg_info : (Tryd.prog.info? 128).map (·.size) = some 74 := by kernel_rfl
theorem zeroCells_size : Tryd.zeroCells128.size = 74 := by kernel_rfl
set_option maxRecDepth 100000 in
set_option maxHeartbeats 2000000 in
theorem sum_any (v : Value) (vs : List Value) (pss : List (List Nat)) (w : World) (hv : RdL w v vs) (hl : pss.length = vs.length) (hr : ∀ i u, vs[i]? = some u → Rd w u (pss.getD i [])) (hb : ∀ ps ∈ pss, Sha.Byte ps) (ht : Tabs w)
    (hz1 : vs.length < 1048576) (hz2 : ∀ ps ∈ pss, ps.length ≤ 549755813888) :
    Calls Tryd.prog 58 #[v] w fun e w' => e = .returned (.agg (u8s (Sha.sum pss.flatten))) ∧ Below w.heap.size w w' := by
  obtain ⟨A, c, rfl, hc, hA⟩ := hv
  have c0 : w.cell? ⟨9, 0, none⟩ = some (.int .u32 1779033703) := ht.start 0 (by omega)
  have c1 : w.cell? ⟨9, 1, none⟩ = some (.int .u32 3144134277) := ht.start 1 (by omega)
  have c2 : w.cell? ⟨9, 2, none⟩ = some (.int .u32 1013904242) := ht.start 2 (by omega)
  have c3 : w.cell? ⟨9, 3, none⟩ = some (.int .u32 2773480762) := ht.start 3 (by omega)
  have c4 : w.cell? ⟨9, 4, none⟩ = some (.int .u32 1359893119) := ht.start 4 (by omega)
  have c5 : w.cell? ⟨9, 5, none⟩ = some (.int .u32 2600822924) := ht.start 5 (by omega)
  have c6 : w.cell? ⟨9, 6, none⟩ = some (.int .u32 528734635) := ht.start 6 (by omega)
  have c7 : w.cell? ⟨9, 7, none⟩ = some (.int .u32 1541459225) := ht.start 7 (by omega)
  have hg := ht.big.2
  go_enter Tryd.func58, Tryd.ntmps58
  have HBK : Hid (Blk ((w.alloc (.cells (u8s (List.replicate 32 0)) 34)).alloc (.cells Tryd.zeroCells128 128)) (w.heap.size + 1) 128 Tryd.zeroCells128) := by
    have h := Blk.new (w.alloc (.cells (u8s (List.replicate 32 0)) 34)) 128 Tryd.zeroCells128
    have e : (w.alloc (.cells (u8s (List.replicate 32 0)) 34)).heap.size = w.heap.size + 1 := by simp
    rw [e] at h
    exact Lib.hid h
  have HRS : Hid (Blk ((w.alloc (.cells (u8s (List.replicate 32 0)) 34)).alloc (.cells Tryd.zeroCells128 128)) w.heap.size 34 (u8s (List.replicate 32 0))) := Lib.hid ((Blk.new w _ _).alloc _)
  have HBB : Hid (Below w.heap.size w ((w.alloc (.cells (u8s (List.replicate 32 0)) 34)).alloc (.cells Tryd.zeroCells128 128))) := by
    refine Lib.hid (((Below.refl _ _).alloc (Nat.le_refl _) _).alloc ?_ _); simp
  go_wp2_with (first | (refine wpList_store_row rfl 128 (.tmp 3) (.tmp 7) rfl (w.heap.size + 1) _ rfl rfl 128 _ HBK.out ?_ ?_ ?_ ?_))
  case refine_1 => rw [start_cells]; exact msg_info
  case refine_2 => rw [start_cells]; exact zeroCells_size
  case refine_3 => exact start_one
  rw [start_cells]
  have HM : Hid (Took ((((w.alloc (.cells (u8s (List.replicate 32 0)) 34)).alloc (.cells Tryd.zeroCells128 128))).setRow (w.heap.size + 1) (msgC Sha.H0 (List.replicate 64 0) 0 0)) (w.heap.size + 1) [] 0) :=
    Lib.hid ⟨List.replicate 64 0, ⟨rfl, Sha.Byte.zeros 64, fun i hi => absurd hi (by simp)⟩, ⟨HBK.out.row _, rfl, rfl⟩⟩
  have HRS2 := Lib.hid (HRS.out.farRow (g' := w.heap.size + 1) (by omega) (msgC Sha.H0 (List.replicate 64 0) 0 0))
  have HB2 := Lib.hid (below_row HBB.out (g := w.heap.size + 1) (by omega) (msgC Sha.H0 (List.replicate 64 0) 0 0))
  clear HBK HRS HBB c0 c1 c2 c3 c4 c5 c6 c7
  change Code.wp _ _ _ _ (((w.alloc (.cells (u8s (List.replicate 32 0)) 34)).alloc (.cells Tryd.zeroCells128 128)).setRow (w.heap.size + 1) (msgC Sha.H0 (List.replicate 64 0) 0 0))
  generalize ((w.alloc (.cells (u8s (List.replicate 32 0)) 34)).alloc (.cells Tryd.zeroCells128 128)).setRow (w.heap.size + 1) (msgC Sha.H0 (List.replicate 64 0) 0 0) = w1 at HM HRS2 HB2 ⊢
  generalize msgC Sha.H0 (List.replicate 64 0) 0 0 = mc
  go_loopw [10] (fun i wr => ∃ k : Nat, k ≤ vs.length ∧ i = .int .i64 k ∧ Took wr (w.heap.size + 1) (pss.take k).flatten (pss.take k).flatten.length ∧ Below w.heap.size w wr ∧ ∃ cs, cs.size = 32 ∧ Blk wr w.heap.size 34 cs) (fun i _ => vs.length - (intOf i).toNat)
  case atStart => exact ⟨0, by omega, rfl, HM.out, HB2.out, _, by rw [u8s_size]; rfl, HRS2.out⟩
  case round =>
    obtain ⟨k, hk, rfl, hT, hbel, hres⟩ := hrel
    have HRES := Lib.hid hres
    clear hres
    have hp1 : w.heap.size + 1 ≠ 13 := by have := ht.big.1; omega
    have hp2 : w.heap.size + 1 ≠ 9 := by have := ht.big.2; omega
    have hfl := sflat_len (pss.take k) 549755813888 (fun ps hps => hz2 ps (List.mem_of_mem_take hps))
    rw [List.length_take] at hfl
    by_cases hlt : k < vs.length
    · obtain ⟨b, o, rfl, hbl, hcell⟩ := hA (by omega)
      have hu := hcell k vs[k] (List.getElem?_eq_getElem hlt)
      have hru := hr k vs[k] (List.getElem?_eq_getElem hlt)
      have hbk := hb (pss.getD k []) (by simp [List.getD, show k < pss.length by omega])
      have hzk := hz2 (pss.getD k []) (by simp [List.getD, show k < pss.length by omega])
      have HTK : Hid ((pss.take (k + 1)).flatten = (pss.take k).flatten ++ pss.getD k []) := by
        apply Lib.hid
        rw [List.take_add_one, List.flatten_append]
        congr 1
        simp [List.getD, show k < pss.length by omega]
      generalize vs[k] = u at hu hru
      generalize pss.getD k [] = pk at hru hbk hzk HTK
      have hcu : wr.cell? ⟨b, o + k, none⟩ = some u := (hbel.cell (p := ⟨b, o + k, none⟩) hbl).trans hu
      have i1 : ((k : Nat) : Int) < vs.length := by omega
      have hmin : k * 549755813888 ≤ 1048576 * 549755813888 := Nat.mul_le_mul_right _ (by omega)
      have hfl2 : (pss.take k).flatten.length ≤ k * 549755813888 := Nat.le_trans hfl (Nat.mul_le_mul_right _ (Nat.min_le_left _ _))
      clear hcell hA hfl hu
      go_wp2_with fail
      refine (add_any (w.heap.size + 1) u _ pk wr hT (hru.outB (Nat.le_succ _) hbel) hbk (ht.below hbel (Nat.le_refl _)) hp1 hp2 (by omega)).mono ?_
      rintro e w2 ⟨rfl, hT2, hO2⟩
      have HT2 := Lib.hid hT2
      have hb2 := below_of_only hbel hO2 (by omega)
      clear hT2
      go_wp2_with fail
      go_roundw
      case rel =>
        obtain ⟨cs, hz, hc⟩ := HRES.out
        refine ⟨k + 1, by omega, by go_num, by rw [HTK.out]; exact HT2.out, hb2, cs, hz, hc.grown hO2 (fun e => by injection e; omega)⟩
      case measure => simp [intOf]; omega
    · have HK := Lib.hid (show k = vs.length by omega)
      have hfl2 : (pss.take k).flatten.length ≤ 1048576 * 549755813888 := Nat.le_trans hfl (Nat.mul_le_mul_right _ (by omega))
      clear hfl hA
      go_wp2_with fail
      refine (end_any (w.heap.size + 1) _ wr hT (ht.below hbel (Nat.le_refl _)) hp1 hp2 (by omega)).mono ?_
      rintro e w2 ⟨rfl, hO2⟩
      have hb2 := below_of_only hbel hO2 (by omega)
      have HF : Hid ((pss.take k).flatten = pss.flatten) := by
        apply Lib.hid; rw [HK.out, List.take_of_length_le (by omega)]
      rw [HF.out]
      obtain ⟨cs, hz, hc⟩ := HRES.out
      have HZ := Lib.hid hz
      have HC := Lib.hid (hc.grown hO2 (fun e => by injection e; omega))
      have HL := Lib.hid (show (u8s (Sha.sum pss.flatten)).size = 32 by rw [u8s_size]; exact Sha.join_len _)
      clear hz hc
      go_wp2_with (first | (refine wpList_store_row rfl 34 (.tmp 2) (.tmp 17) rfl w.heap.size _ rfl rfl 34 cs HC.out (by rw [HL.out]; exact oid_info) (by rw [HL.out]; exact HZ.out) (u8s_one _) ?_))
      exact bodyPost_ret (v := .agg (u8s (Sha.sum pss.flatten))) (results_cell_row rfl _ _ w.heap.size 34 _ (0, 0) _ rfl (HC.out.row _) Tryd.underlying34 rfl (by rw [HL.out]; exact oid_info)) rfl ⟨rfl, below_row hb2 (Nat.le_refl _) _⟩
end Go.Proofs.YtcnedkgadfegbaaDoor
/- The walk of sha.Hex: a digest as 64 figures. -/
namespace Go.Proofs.YtcnedkgadfegbaaDoor
open Go Go.RowKit
end Go.Proofs.YtcnedkgadfegbaaDoor
/- The walk of the chapter's example (alive). -/
namespace Go.Proofs.YtcnedkgadfegbaaDoor
open Go Go.RowKit
theorem alive_sum : Sha.hex (Sha.sum [97, 98, 99]) = [98, 97, 55, 56, 49, 54, 98, 102, 56, 102, 48, 49, 99, 102, 101, 97, 52, 49, 52, 49, 52, 48, 100, 101, 53, 100, 97, 101, 50, 50, 50, 51, 98, 48, 48, 51, 54, 49, 97, 51, 57, 54, 49, 55, 55, 97, 57, 99, 98, 52, 49, 48, 102, 102, 54, 49, 102, 50, 48, 48, 49, 53, 97, 100] := by decide +kernel
theorem alive_text : textOf [98, 97, 55, 56, 49, 54, 98, 102, 56, 102, 48, 49, 99, 102, 101, 97, 52, 49, 52, 49, 52, 48, 100, 101, 53, 100, 97, 101, 50, 50, 50, 51, 98, 48, 48, 51, 54, 49, 97, 51, 57, 54, 49, 55, 55, 97, 57, 99, 98, 52, 49, 48, 102, 102, 54, 49, 102, 50, 48, 48, 49, 53, 97, 100] = ⟨#[98, 97, 55, 56, 49, 54, 98, 102, 56, 102, 48, 49, 99, 102, 101, 97, 52, 49, 52, 49, 52, 48, 100, 101, 53, 100, 97, 101, 50, 50, 50, 51, 98, 48, 48, 51, 54, 49, 97, 51, 57, 54, 49, 55, 55, 97, 57, 99, 98, 52, 49, 48, 102, 102, 54, 49, 102, 50, 48, 48, 49, 53, 97, 100]⟩ := by kernel_rfl
end Go.Proofs.YtcnedkgadfegbaaDoor
/- The last step of a law's row, once for all laws: a call that answers true and leaves every block that stood before as it was meets 'true; each argument reads as it read', whatever the arguments' types are. -/
namespace Go.Proofs.YtcnedkgadfegbaaDoor
open Go Go.RowKit Go.WideShapes Go.ChangeShapes
section
variable {H : Type} {enc : TypeId × Value → H} {P : Program} {w w' : World}
theorem sameAt_of_below (hb : Below w.heap.size w w') {p : MemPlace} (hp : p.block < w.heap.size) : w.sameAt w' p := by
  cases p with
  | cell b off => exact hb.cell (p := ⟨b, off, none⟩) hp
  | map b => exact hb.block b hp
/-- Arguments that were read are read alike behind a call that keeps the old blocks. -/
theorem all_stay (hb : Below w.heap.size w w') : ∀ {ts : List TypeId} {vs : List Value} {ds : List (DataW H)} {ps : List MemPlace},
    DataW.TrodAll enc P w 0 (fun _ => true) true ts vs ds ps → (∀ p ∈ ps, p.block < w.heap.size) → DataW.TrodAll enc P w' 0 (fun _ => true) true ts vs ds ps
  | [], [], [], _, h, _ => h
  | _ :: _, _ :: _, _ :: _, _, ⟨p, q, ⟨n, h1⟩, h2, e⟩, hs =>
    ⟨p, q, ⟨n, DataW.trod_carry n _ _ _ h1 (fun x hx => sameAt_of_below hb (hs x (by rw [e]; exact List.mem_append_left _ hx)))⟩,
      all_stay hb h2 (fun x hx => hs x (by rw [e]; exact List.mem_append_right _ hx)), e⟩
/-- A law's post. -/
theorem law_post (hlo : laidOutB P = true) (hmr : mapsRowed P = true)
    (hsl : ((List.range P.types.size).all fun t => match P.underlying t with | some (.slice e) => decide (0 < P.cellsOf e) | _ => true) = true)
    {f : Func} {s : ChangeSpec} {tb : TypeId} (hv : s.vars = []) (hrt : f.resultTypes = #[tb]) (htb : P.underlying tb = some .bool) (hT : ∀ t ∈ f.params.toList, t < P.types.size)
    {apart fresh handsOn again : Bool} {args : Array Value} {ds gs : List (DataW H)} {before : List MemPlace}
    (hfn : (s.fn H (ds ++ gs)).results = [.lit (.bool true)] ∧ (s.fn H (ds ++ gs)).args = ds ∧ (s.fn H (ds ++ gs)).vars = [])
    (hW : DataW.Whole enc P f.params.toList s.vars apart w args.toList ds gs before) (hb : Below w.heap.size w w') :
    s.post enc P f apart fresh handsOn again w args (.bool true) w' := by
  have hlt := hW.lt
  have hW0 := hW
  obtain ⟨p, q, h1, h2, he, hz, hn⟩ := hW
  rw [hv] at h2
  obtain ⟨rfl, rfl⟩ : gs = [] ∧ q = [] := by
    cases gs with
    | nil => exact ⟨rfl, h2⟩
    | cons g r => exact h2.elim
  rw [List.append_nil] at he
  subst he
  have hst := all_stay hb h1 hlt
  have hsp := DataW.TrodAll.respare (spare' := fun b => decide (b < w.heap.size)) (kids_rows hlo hmr) (slices_full_of P hsl) hT hst (fun x hx => by simpa using hlt x hx)
  have hres : ∀ (b : Nat) (sp : Nat → Bool) (hd : Bool), DataW.TrodAll enc P w' b sp hd f.resultTypes.toList ((Value.bool true).resultList f.resultTypes.size) (s.fn H (ds ++ [])).results [] := by
    intro b sp hd
    rw [hrt, hfn.1]
    exact trodAll_mk1 (shut_bool htb true)
  refine ⟨ds, [], before, [], before, [], hW0, hres _ _ _, by rw [hfn.2.1]; exact hsp, by rw [hv, hfn.2.2]; rfl, hb.frame _, fun _ => ⟨ok_one hrt rfl (okWide_bool_mk htb true), .lit (.bool true) :: ds, [], before, ⟨before, [], ?_, by rw [hv]; rfl, by simp, ?_, hn⟩, fun x hx _ => hx⟩⟩
  · rw [hrt]
    exact ⟨[], before, shut_bool htb true, hst, by simp⟩
  · intro b off hp
    rw [hb.frozen (p := ⟨b, off, none⟩) (hlt _ hp)]
    exact hz b off hp
end
end Go.Proofs.YtcnedkgadfegbaaDoor
/- What every law of layer 1 shares at its row: the two tables out of the listed variables, a world for the witness, the last step. -/
namespace Go.Proofs.YtcnedkgadfegbaaDoor
open Go Go.RowKit Go.WideShapes Go.ChangeShapes Go.ChangeAt
theorem own : ownKnob Tryd.prog.godebug = none := by kernel_rfl
theorem gStart : Tryd.prog.globalNamed "cartage/sha.start" = some 9 := by kernel_rfl
theorem gRounds : Tryd.prog.globalNamed "cartage/sha.rounds" = some 13 := by kernel_rfl
theorem gStartType : (Tryd.prog.globals[9]?).map (·.type) = some 125 := by kernel_rfl
theorem gRoundsType : (Tryd.prog.globals[13]?).map (·.type) = some 139 := by kernel_rfl
theorem cells8 : Tryd.prog.cellsOf 125 = 8 := by kernel_rfl
theorem cells64 : Tryd.prog.cellsOf 139 = 64 := by kernel_rfl
theorem cells1 : Tryd.prog.cellsOf 124 = 1 := by kernel_rfl
theorem list_start : (Rows.laid_cartage_sha_start : DataW Unit) = Lib.tabData .u32 (Sha.H0.map Int.ofNat) := by kernel_rfl
theorem list_rounds : (Rows.laid_cartage_sha_rounds : DataW Unit) = Lib.tabData .u32 (Sha.K.map Int.ofNat) := by kernel_rfl
theorem tabs_of_laid {W : World} (h : laidMet Tryd.prog [("cartage/sha.start", Rows.laid_cartage_sha_start), ("cartage/sha.rounds", Rows.laid_cartage_sha_rounds)] W) : Tabs W := by
  rw [list_start, list_rounds] at h
  have h1 : Lib.TabIs Tryd.prog W "cartage/sha.start" .u32 (Sha.H0.map Int.ofNat) := Lib.tabIs_of_head gStart gStartType Tryd.underlying125 Tryd.underlying124 cells1 cells8 h
  have h2 : Lib.TabIs Tryd.prog W "cartage/sha.rounds" .u32 (Sha.K.map Int.ofNat) := Lib.tabIs_of_head gRounds gRoundsType Tryd.underlying139 Tryd.underlying124 cells1 cells64 h.tail
  have c1 : ∀ i, i < 8 → W.cell? ⟨9, i, none⟩ = some (.int .u32 ((Sha.H0.getD i 0 : Nat) : Int)) := fun i hi => by
    rw [h1.cell gStart i (by simpa [Sha.H0] using hi)]
    simp [List.getD, show i < Sha.H0.length from hi]
  have c2 : ∀ i, i < 64 → W.cell? ⟨13, i, none⟩ = some (.int .u32 ((Sha.K.getD i 0 : Nat) : Int)) := fun i hi => by
    rw [h2.cell gRounds i (by rw [List.length_map]; exact hi)]
    simp [List.getD, show i < Sha.K.length from hi]
  exact ⟨⟨block_lt_of_cell (c2 0 (by omega)), block_lt_of_cell (c1 0 (by omega))⟩, c1, c2⟩
def putCells (cs : Array Value) : Obj → Obj
  | .cells _ t fr => .cells cs t fr
  | o => o
/-- A world for the witness: the settled one, with the two tables as their initialisers lay them. -/
noncomputable def laidWorld (os : Os) : World :=
  { World.holding Tryd.prog os ⟨#[], #[], []⟩ with heap := ((World.holding Tryd.prog os ⟨#[], #[], []⟩).heap.modify 9 (putCells (u32s Sha.H0))).modify 13 (putCells (u32s Sha.K)) }
theorem laidOut : laidOutB Tryd.prog = true := by kernel_rfl
theorem mapsRowed_ : mapsRowed Tryd.prog = true := by kernel_rfl
theorem slicesFull : ((List.range Tryd.prog.types.size).all fun t => match Tryd.prog.underlying t with | some (.slice e) => decide (0 < Tryd.prog.cellsOf e) | _ => true) = true := by kernel_rfl
end Go.Proofs.YtcnedkgadfegbaaDoor
/- Arguments of laws, opened: arrays of bytes, texts. -/
namespace Go.Proofs.YtcnedkgadfegbaaDoor
open Go Go.RowKit Go.WideShapes Go.ChangeShapes
section
variable {H : Type} {enc : TypeId × Value → H} {P : Program} {W : World} {base : Nat} {sp : Nat → Bool} {held : Bool} {t e : TypeId} {n : Nat}
theorem byte_wf {x : Int} (h : (Lit.int .u8 x).wf = true) : 0 ≤ x ∧ x < 256 := by
  have h1 : IntKind.u8.min = 0 := rfl
  have h2 : IntKind.u8.max = 255 := rfl
  simp only [Lit.wf, Bool.and_eq_true, decide_eq_true_eq] at h
  omega
theorem mapM_u8 (he : P.underlying e = some (.int .u8)) {m c : Nat} {cs : List Value} : ∀ (L : List Nat) (xs : List (DataW H × List MemPlace)),
    L.mapM (fun i => DataW.trod enc P W base sp held m e ((cs.drop (i * c)).take c)) = some xs → ∀ i ∈ L, ∃ a : Nat, a < 256 ∧ (cs.drop (i * c)).take c = [.int .u8 (a : Int)]
  | [], _, _, i, hi => by simp at hi
  | j :: L, xs, h, i, hi => by
    rw [List.mapM_cons] at h
    simp only [bind, Option.bind_eq_some_iff, pure, Option.some.injEq] at h
    obtain ⟨y, hy, ys, hys, rfl⟩ := h
    rcases List.mem_cons.1 hi with rfl | hi
    · obtain ⟨a, ea, rfl, wa⟩ := DataW.trod_int he hy
      have hb := byte_wf wa
      obtain ⟨n, rfl⟩ := Int.eq_ofNat_of_zero_le hb.1
      exact ⟨n, by have := hb.2; omega, ea⟩
    · exact mapM_u8 he L ys hys i hi
theorem open_u8arr (ht : P.underlying t = some (.array n e)) (he : P.underlying e = some (.int .u8)) (h1 : P.cellsOf e = 1) (hn : P.cellsOf t = n) {r : Reach} {b0 : Nat} {v : Value} {d : DataW H} {ps : List MemPlace}
    (hval : Value.okWide P W r b0 t v) (hd : DataW.Trod enc P W base sp held t v d ps) : ∃ xs : List Nat, v = .agg (u8s xs) ∧ xs.length = n ∧ Sha.Byte xs := by
  simp only [Value.okWide, ht] at hval
  obtain ⟨cs, rfl, hcs, _⟩ := hval
  rw [hn] at hcs
  obtain ⟨fuel, hf⟩ := hd
  cases fuel with
  | zero => simp [DataW.trod] at hf
  | succ m =>
    rw [DataW.trod_step] at hf
    unfold DataW.trodStep at hf
    simp only [ht, Value.cells] at hf
    rw [if_pos (by rw [hn]; simpa using hcs)] at hf
    simp only [Option.map_eq_some_iff] at hf
    obtain ⟨ys, hy, _⟩ := hf
    rw [h1] at hy
    have hall := mapM_u8 he _ _ hy
    have hget : ∀ i, i < n → ∃ a : Nat, a < 256 ∧ cs.toList[i]? = some (.int .u8 (a : Int)) := fun i hi => by
      obtain ⟨a, ha, hc⟩ := hall i (List.mem_range.2 hi)
      refine ⟨a, ha, ?_⟩
      have := congrArg (fun l => l[0]?) hc
      simpa [List.getElem?_take, List.getElem?_drop] using this
    let f : Value → Nat := fun v => match v with | .int _ a => a.toNat | _ => 0
    have hz : cs.toList.length = n := by simpa using hcs
    refine ⟨cs.toList.map f, ?_, by rw [List.length_map, hz], ?_⟩
    · have e0 : cs.toList = (cs.toList.map f).map fun (n : Nat) => Value.int .u8 (n : Int) := by
        rw [List.map_map]
        apply List.ext_getElem?
        intro i
        rcases Nat.lt_or_ge i n with hi | hi
        · obtain ⟨a, ha, hc⟩ := hget i hi
          rw [List.getElem?_map, hc]
          simp [f]
        · rw [List.getElem?_eq_none (by omega), List.getElem?_eq_none (by rw [List.length_map]; omega)]
      unfold u8s
      rw [← e0]
    · intro i
      rcases Nat.lt_or_ge i n with hi | hi
      · obtain ⟨a, ha, hc⟩ := hget i hi
        simp [List.getD, List.getElem?_map, hc, f, ha]
      · simp [List.getD, List.getElem?_eq_none (show cs.toList.length ≤ i by omega)]
end
end Go.Proofs.YtcnedkgadfegbaaDoor
