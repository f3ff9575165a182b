/- DiskKeeps' first loops: the acts; the row of trues. -/
import Derived.Test.YtpmadlkkldbceaaDoorDisk17
namespace Go.Proofs.YtpmadlkkldbceaaDoor
open Go Go.RowKit
set_option maxRecDepth 100000 in
set_option maxHeartbeats 1000000 in
theorem keep1_any (c0 c1 c2 c3 c4 c6 c7 c8 c9 c10 c11 c12 c13 c14 c15 c16 c17 c18 c19 c20 c21 c22 c23 c24 c25 c26 c27 c28 c29 c30 c31 c32 c33 c34 c35 c39 c40 c41 c42 c43 c44 c45 c46 c47 c48 c49 c50 c51 c52 c53 c54 c55 c56 c57 c58 c59 c60 c61 c62 c63 c64 c65 c66 c67 c68 c69 c70 c71 c72 c73 c74 c75 c76 c77 c78 c79 c80 c81 c82 c83 c84 c85 c86 c87 c88 c89 c90 c91 c92 c93 c94 c95 c96 c97 c98 c99 c100 c101 c102 c103 c104 c105 c106 c107 c108 c109 c110 c111 c112 c113 c114 c115 c116 c117 c118 c119 c120 c121 c122 c123 c124 c125 c126 c127 c128 c129 c130 c131 c132 c133 c134 c135 c136 c137 c138 c139 c140 c141 c142 c143 c144 c145 c146 c147 c148 c149 c150 c151 c152 c153 c154 c155 c156 c157 c158 c159 c160 c161 c162 c163 c164 c165 c166 c167 c168 c169 c170 c171 c172 c173 c174 c175 c176 c177 c178 c179 c180 : Value) (A : Option Addr) (n c b o d B ms ml : Nat) (v0 : Value) (xs : List ActD) (a : Nat → Addr) (w0 w : World) (Q0 : Exit → Act → World → Prop) (hA : 0 < n → A = some ⟨b, o, none⟩) (hn : xs.length = n) (hx : ARow w0 b o xs) (h60 : n ≤ 60)
    (hs : Sents w0 a) (hb : Below w0.heap.size w0 w) (hB : w0.heap.size ≤ B) (hd : DkAt B w d (fresh 5) ms ml v0 0)
    (hexit : ∀ (u8 u39 u40 u41 u42 u43 u44 u45 u46 u47 u48 u49 u50 u51 u52 u53 u54 u55 u56 u57 u58 u59 u60 : Value) (w' : World), (∃ v', DkAt B w' d (Dk.kst xs n) ms ml v' n) → Below w0.heap.size w0 w' → Q0 (.exit 0) ⟨List.toArray (c0 :: c1 :: c2 :: c3 :: c4 :: .pointer (some ⟨d, 0, none⟩) :: c6 :: c7 :: u8 :: c9 :: c10 :: c11 :: c12 :: c13 :: c14 :: c15 :: c16 :: c17 :: c18 :: c19 :: c20 :: c21 :: c22 :: c23 :: c24 :: c25 :: c26 :: c27 :: c28 :: c29 :: c30 :: c31 :: c32 :: c33 :: c34 :: c35 :: .slice A n c :: .int .i64 (n : Int) :: .int .i64 (n : Int) :: u39 :: u40 :: u41 :: u42 :: u43 :: u44 :: u45 :: u46 :: u47 :: u48 :: u49 :: u50 :: u51 :: u52 :: u53 :: u54 :: u55 :: u56 :: u57 :: u58 :: u59 :: u60 :: c61 :: c62 :: c63 :: c64 :: c65 :: c66 :: c67 :: c68 :: c69 :: c70 :: c71 :: c72 :: c73 :: c74 :: c75 :: c76 :: c77 :: c78 :: c79 :: c80 :: c81 :: c82 :: c83 :: c84 :: c85 :: c86 :: c87 :: c88 :: c89 :: c90 :: c91 :: c92 :: c93 :: c94 :: c95 :: c96 :: c97 :: c98 :: c99 :: c100 :: c101 :: c102 :: c103 :: c104 :: c105 :: c106 :: c107 :: c108 :: c109 :: c110 :: c111 :: c112 :: c113 :: c114 :: c115 :: c116 :: c117 :: c118 :: c119 :: c120 :: c121 :: c122 :: c123 :: c124 :: c125 :: c126 :: c127 :: c128 :: c129 :: c130 :: c131 :: c132 :: c133 :: c134 :: c135 :: c136 :: c137 :: c138 :: c139 :: c140 :: c141 :: c142 :: c143 :: c144 :: c145 :: c146 :: c147 :: c148 :: c149 :: c150 :: c151 :: c152 :: c153 :: c154 :: c155 :: c156 :: c157 :: c158 :: c159 :: c160 :: c161 :: c162 :: c163 :: c164 :: c165 :: c166 :: c167 :: c168 :: c169 :: c170 :: c171 :: c172 :: c173 :: c174 :: c175 :: c176 :: c177 :: c178 :: c179 :: c180 :: []), []⟩ w') :
    (Code.loop (keepLoop 0)).wp Tryd.prog Q0 ⟨List.toArray (c0 :: c1 :: c2 :: c3 :: c4 :: .pointer (some ⟨d, 0, none⟩) :: c6 :: c7 :: c8 :: c9 :: c10 :: c11 :: c12 :: c13 :: c14 :: c15 :: c16 :: c17 :: c18 :: c19 :: c20 :: c21 :: c22 :: c23 :: c24 :: c25 :: c26 :: c27 :: c28 :: c29 :: c30 :: c31 :: c32 :: c33 :: c34 :: c35 :: .slice A n c :: .int .i64 (n : Int) :: .int .i64 0 :: c39 :: c40 :: c41 :: c42 :: c43 :: c44 :: c45 :: c46 :: c47 :: c48 :: c49 :: c50 :: c51 :: c52 :: c53 :: c54 :: c55 :: c56 :: c57 :: c58 :: c59 :: c60 :: c61 :: c62 :: c63 :: c64 :: c65 :: c66 :: c67 :: c68 :: c69 :: c70 :: c71 :: c72 :: c73 :: c74 :: c75 :: c76 :: c77 :: c78 :: c79 :: c80 :: c81 :: c82 :: c83 :: c84 :: c85 :: c86 :: c87 :: c88 :: c89 :: c90 :: c91 :: c92 :: c93 :: c94 :: c95 :: c96 :: c97 :: c98 :: c99 :: c100 :: c101 :: c102 :: c103 :: c104 :: c105 :: c106 :: c107 :: c108 :: c109 :: c110 :: c111 :: c112 :: c113 :: c114 :: c115 :: c116 :: c117 :: c118 :: c119 :: c120 :: c121 :: c122 :: c123 :: c124 :: c125 :: c126 :: c127 :: c128 :: c129 :: c130 :: c131 :: c132 :: c133 :: c134 :: c135 :: c136 :: c137 :: c138 :: c139 :: c140 :: c141 :: c142 :: c143 :: c144 :: c145 :: c146 :: c147 :: c148 :: c149 :: c150 :: c151 :: c152 :: c153 :: c154 :: c155 :: c156 :: c157 :: c158 :: c159 :: c160 :: c161 :: c162 :: c163 :: c164 :: c165 :: c166 :: c167 :: c168 :: c169 :: c170 :: c171 :: c172 :: c173 :: c174 :: c175 :: c176 :: c177 :: c178 :: c179 :: c180 :: []), []⟩ w := by
  have HX := Lib.hid hx
  have HA := Lib.hid hA
  have HN := Lib.hid hn
  have HE := Lib.hid hexit
  have HS := Lib.hid hs
  have HD0 := Lib.hid hd
  have HB0 := Lib.hid hb
  have HBB := Lib.hid hB
  have HDL : Hid (w0.heap.size ≤ d) := Lib.hid (Nat.le_trans hB (hd.lts d (Or.inl rfl)).1)
  have HNE : Hid (d ≠ 15) := Lib.hid (fun e => by have h1 := (hs 15 (by omega)).lt; have h2 := HDL.out; have h4 : sgs.getD 15 0 = 15 := rfl; omega)
  clear hx hA hn hexit hs hd hb hB
  conv => arg 2; arg 1; whnf
  go_loopw [38] (fun j wr => ∃ k : Nat, k ≤ n ∧ j = .int .i64 k ∧ ∃ v, Hid (DkAt B wr d (Dk.kst xs k) ms ml v k) ∧ Hid (Below w0.heap.size w0 wr)) (fun j _ => n - (intOf j).toNat)
  case atStart => exact ⟨0, Nat.zero_le _, rfl, v0, HD0, HB0⟩
  case round =>
    obtain ⟨k, hk, rfl, v, HD, HB⟩ := hrel
    by_cases hlt : k < n
    · have i0 : ((k : Nat) : Int) < n := Int.ofNat_lt.2 hlt
      have i1 : (0 : Int) ≤ ((k : Nat) : Int) := Int.natCast_nonneg k
      obtain ⟨x, hxk⟩ : ∃ x, xs[k]? = some x := ⟨xs[k]'(by rw [HN.out]; exact hlt), List.getElem?_eq_getElem _⟩
      obtain rfl := HA.out (by omega)
      have HOK0 := Lib.hid (HX.out.ok x (List.mem_of_getElem? hxk))
      have HG : Hid (wr.rangeAt b (o + k * 4) x.cells) := Lib.hid (by have := (HX.out.below HB.out (Nat.le_refl _)).row k x hxk; rwa [Nat.mul_comm] at this)
      have HB1 : Hid (Blk (wr.alloc (.cells actCells0.toArray 35)) wr.heap.size 35 actCells0.toArray) := Lib.hid (Blk.new wr _ _)
      have HZ : Hid (Blk ((wr.alloc (.cells actCells0.toArray 35)).setRow wr.heap.size x.cells.toArray) wr.heap.size 35 x.cells.toArray) := Lib.hid (HB1.out.row _)
      have HBW : Hid (Below wr.heap.size wr ((wr.alloc (.cells actCells0.toArray 35)).setRow wr.heap.size x.cells.toArray)) := Lib.hid (below_row ((Below.refl _ _).alloc (Nat.le_refl _) _) (Nat.le_refl _) _)
      have HK : Hid (Dk.kst xs (k + 1) = Dk.act5 (Dk.kst xs k) x) := Lib.hid (by show (match xs[k]? with | some x => Dk.act5 (Dk.kst xs k) x | none => Dk.kst xs k) = _; rw [hxk])
      have HLT := Lib.hid hlt
      have HLM : Hid (k < 1000000) := Lib.hid (by omega)
      clear hxk hk hlt
      by_cases hk1 : x.kind = 1
      · have HK2 : Hid (Dk.kst xs (k + 1) = Dk.syncs (Dk.kst xs k)) := Lib.hid (by rw [HK.out, Dk.act5, if_pos hk1])
        have b1 : (x.kind == 1) = true := by rw [hk1]; rfl
        clear hk1
        go_wp2_with (first
          | (refine wpList_load_mid rfl 35 (.tmp 40) rfl b (o + k * 4) rfl x.cells _ HG.out Tryd.underlying35 rfl act_size ?_)
          | (refine wpList_store_row rfl 35 (.tmp 8) (.tmp 41) rfl wr.heap.size x.cells.toArray rfl rfl 35 actCells0.toArray HB1.out act_size rfl (act_one x) ?_; change wpList _ _ _ _ _ ((wr.alloc (.cells actCells0.toArray 35)).setRow wr.heap.size x.cells.toArray); generalize ((wr.alloc (.cells actCells0.toArray 35)).setRow wr.heap.size x.cells.toArray) = wz at *
             have p0 : wz.cell? ⟨wr.heap.size, 0, none⟩ = some (.int .i64 x.kind) := HZ.out.cell 0
             have p1 : wz.cell? ⟨wr.heap.size, 1, none⟩ = some (.int .i64 x.n) := HZ.out.cell 1
             have p2 : wz.cell? ⟨wr.heap.size, 2, none⟩ = some (.slice x.A x.l x.c) := HZ.out.cell 2
             have HDZ := Lib.hid (HD.out.below HBW.out)
             have HBF := Lib.hid (HB.out.trans (HBW.out.mono HB.out.size)))
          | (go_at_call 14; refine (dk_sync (a 15) wz HDZ.out HLM.out ((HS.out.below HBF.out (Nat.le_refl _)) 15 (by omega)).var HNE.out).mono ?_; rintro e w5 ⟨rfl, ⟨v5, hd⟩, hf⟩
             rw [← HK2.out] at hd
             have HD5 := Lib.hid hd
             have HB5 := Lib.hid (HDZ.out.run HBB.out HBF.out (hf v))
             clear hd hf))
        exact ⟨⟨k + 1, HLT.out, by simp, v5, HD5, HB5⟩, by have := HLT.out; simp [intOf]; omega⟩
      · have b1 : (x.kind == 1) = false := beq_false_of_ne hk1
        by_cases hl : x.l ≤ 32
        · have HK2 : Hid (Dk.kst xs (k + 1) = Dk.wrote (Dk.kst xs k) (ix 5 x.n) x.bs) := Lib.hid (by rw [HK.out, Dk.act5, if_neg hk1, if_pos hl])
          have i2 : ((x.l : Nat) : Int) ≤ 32 := by omega
          have HL32 := Lib.hid hl
          obtain ⟨e5, h5⟩ := ix_is x.n 5 (by omega) (by omega)
          rw [show ((5 : Nat) : Int) = 5 from rfl] at e5
          have H5 := Lib.hid h5
          generalize ix 5 x.n = j5 at e5 H5 HK2
          clear hk1 hl h5
          go_wp2_with (first
            | (refine wpList_load_mid rfl 35 (.tmp 40) rfl b (o + k * 4) rfl x.cells _ HG.out Tryd.underlying35 rfl act_size ?_)
            | (refine wpList_store_row rfl 35 (.tmp 8) (.tmp 41) rfl wr.heap.size x.cells.toArray rfl rfl 35 actCells0.toArray HB1.out act_size rfl (act_one x) ?_; change wpList _ _ _ _ _ ((wr.alloc (.cells actCells0.toArray 35)).setRow wr.heap.size x.cells.toArray); generalize ((wr.alloc (.cells actCells0.toArray 35)).setRow wr.heap.size x.cells.toArray) = wz at *
               have p0 : wz.cell? ⟨wr.heap.size, 0, none⟩ = some (.int .i64 x.kind) := HZ.out.cell 0
               have p1 : wz.cell? ⟨wr.heap.size, 1, none⟩ = some (.int .i64 x.n) := HZ.out.cell 1
               have p2 : wz.cell? ⟨wr.heap.size, 2, none⟩ = some (.slice x.A x.l x.c) := HZ.out.cell 2
               have HDZ := Lib.hid (HD.out.below HBW.out)
               have HBF := Lib.hid (HB.out.trans (HBW.out.mono HB.out.size)))
            | (go_at_call 11; rw [e5]; refine (dk_write j5 x.A x.l x.c x.bs (a 15) wz HDZ.out (by rw [(Dk.kst_in xs k).size]; exact H5.out) HL32.out (HOK0.out.rd.outB HDL.out HBF.out) HOK0.out.byte HLM.out ((HS.out.below HBF.out (Nat.le_refl _)) 15 (by omega)).var HNE.out).mono ?_; rintro e w5 ⟨rfl, ⟨v5, hd⟩, hf⟩
               rw [← HK2.out] at hd
               have HD5 := Lib.hid hd
               have HB5 := Lib.hid (HDZ.out.run HBB.out HBF.out hf)
               clear hd hf))
          exact ⟨⟨k + 1, HLT.out, by simp, v5, HD5, HB5⟩, by have := HLT.out; simp [intOf]; omega⟩
        · have HK2 : Hid (Dk.kst xs (k + 1) = Dk.kst xs k) := Lib.hid (by rw [HK.out, Dk.act5, if_neg hk1, if_neg hl])
          have i2 : ¬ ((x.l : Nat) : Int) ≤ 32 := by omega
          clear hk1 hl
          go_wp2_with (first
            | (refine wpList_load_mid rfl 35 (.tmp 40) rfl b (o + k * 4) rfl x.cells _ HG.out Tryd.underlying35 rfl act_size ?_)
            | (refine wpList_store_row rfl 35 (.tmp 8) (.tmp 41) rfl wr.heap.size x.cells.toArray rfl rfl 35 actCells0.toArray HB1.out act_size rfl (act_one x) ?_; change wpList _ _ _ _ _ ((wr.alloc (.cells actCells0.toArray 35)).setRow wr.heap.size x.cells.toArray); generalize ((wr.alloc (.cells actCells0.toArray 35)).setRow wr.heap.size x.cells.toArray) = wz at *
               have p0 : wz.cell? ⟨wr.heap.size, 0, none⟩ = some (.int .i64 x.kind) := HZ.out.cell 0
               have p1 : wz.cell? ⟨wr.heap.size, 1, none⟩ = some (.int .i64 x.n) := HZ.out.cell 1
               have p2 : wz.cell? ⟨wr.heap.size, 2, none⟩ = some (.slice x.A x.l x.c) := HZ.out.cell 2
               have HDZ := Lib.hid (HD.out.below HBW.out)
               have HBF := Lib.hid (HB.out.trans (HBW.out.mono HB.out.size))))
          exact ⟨⟨k + 1, HLT.out, by simp, v, Lib.hid (by rw [HK2.out]; exact HDZ.out.mono (Nat.le_succ k)), HBF⟩, by have := HLT.out; simp [intOf]; omega⟩
    · obtain rfl : n = k := by omega
      have i0 : ¬ ((n : Nat) : Int) < n := by omega
      have HBX := HB.out
      have HDX := HD.out
      clear hk hlt
      go_wp2
      refine HE.out _ _ _ _ _ _ _ _ _ _ _ _ _ _ _ _ _ _ _ _ _ _ _ _ ⟨v, HDX⟩ HBX
def bools (l : List Bool) : Array Value := (l.map Value.bool).toArray
theorem bools_get {l : List Bool} {i : Nat} (h : i < l.length) : (bools l)[i]? = some (.bool (l.getD i false)) := by simp [bools, List.getD, h]
theorem bools_set (l : List Bool) (i : Nat) (x : Bool) : (bools l).setIfInBounds i (.bool x) = bools (l.set i x) := by
  apply Array.ext'; simp [bools, List.map_set]
theorem fillT (k m : Nat) : (List.replicate k true ++ List.replicate (m + 1) false).set k true = List.replicate (k + 1) true ++ List.replicate m false := by
  rw [List.set_append_right _ _ (by simp)]
  rw [List.replicate_succ' (n := k), List.append_assoc]
  simp [List.replicate_succ]
set_option maxRecDepth 100000 in
theorem keep2_any (c0 c1 c2 c3 c4 c5 c6 c7 c8 c9 c11 c12 c13 c14 c15 c16 c17 c18 c19 c20 c21 c22 c23 c24 c25 c26 c27 c28 c29 c30 c31 c32 c33 c34 c35 c36 c37 c38 c39 c40 c41 c42 c43 c44 c45 c46 c47 c48 c49 c50 c51 c52 c53 c54 c55 c56 c57 c58 c59 c60 c61 c62 c63 c64 c65 c66 c69 c70 c71 c72 c73 c74 c75 c76 c77 c78 c79 c80 c81 c82 c83 c84 c85 c86 c87 c88 c89 c90 c91 c92 c93 c94 c95 c96 c97 c98 c99 c100 c101 c102 c103 c104 c105 c106 c107 c108 c109 c110 c111 c112 c113 c114 c115 c116 c117 c118 c119 c120 c121 c122 c123 c124 c125 c126 c127 c128 c129 c130 c131 c132 c133 c134 c135 c136 c137 c138 c139 c140 c141 c142 c143 c144 c145 c146 c147 c148 c149 c150 c151 c152 c153 c154 c155 c156 c157 c158 c159 c160 c161 c162 c163 c164 c165 c166 c167 c168 c169 c170 c171 c172 c173 c174 c175 c176 c177 c178 c179 c180 : Value) (g n : Nat) (w : World) (Q0 : Exit → Act → World → Prop) (hn : n ≤ 1000) (hb : Blk w g 4 (bools (List.replicate n false)))
    (hexit : ∀ (u11 u69 u70 u71 u72 u73 u74 : Value) (w' : World), Blk w' g 4 (bools (List.replicate n true)) → w.grownBy w' (some g) → Q0 (.exit 2) ⟨List.toArray (c0 :: c1 :: c2 :: c3 :: c4 :: c5 :: c6 :: c7 :: c8 :: c9 :: .slice (some ⟨g, 0, none⟩) n n :: u11 :: c12 :: c13 :: c14 :: c15 :: c16 :: c17 :: c18 :: c19 :: c20 :: c21 :: c22 :: c23 :: c24 :: c25 :: c26 :: c27 :: c28 :: c29 :: c30 :: c31 :: c32 :: c33 :: c34 :: c35 :: c36 :: c37 :: c38 :: c39 :: c40 :: c41 :: c42 :: c43 :: c44 :: c45 :: c46 :: c47 :: c48 :: c49 :: c50 :: c51 :: c52 :: c53 :: c54 :: c55 :: c56 :: c57 :: c58 :: c59 :: c60 :: c61 :: c62 :: c63 :: c64 :: c65 :: c66 :: .int .i64 (n : Int) :: .int .i64 (n : Int) :: u69 :: u70 :: u71 :: u72 :: u73 :: u74 :: c75 :: c76 :: c77 :: c78 :: c79 :: c80 :: c81 :: c82 :: c83 :: c84 :: c85 :: c86 :: c87 :: c88 :: c89 :: c90 :: c91 :: c92 :: c93 :: c94 :: c95 :: c96 :: c97 :: c98 :: c99 :: c100 :: c101 :: c102 :: c103 :: c104 :: c105 :: c106 :: c107 :: c108 :: c109 :: c110 :: c111 :: c112 :: c113 :: c114 :: c115 :: c116 :: c117 :: c118 :: c119 :: c120 :: c121 :: c122 :: c123 :: c124 :: c125 :: c126 :: c127 :: c128 :: c129 :: c130 :: c131 :: c132 :: c133 :: c134 :: c135 :: c136 :: c137 :: c138 :: c139 :: c140 :: c141 :: c142 :: c143 :: c144 :: c145 :: c146 :: c147 :: c148 :: c149 :: c150 :: c151 :: c152 :: c153 :: c154 :: c155 :: c156 :: c157 :: c158 :: c159 :: c160 :: c161 :: c162 :: c163 :: c164 :: c165 :: c166 :: c167 :: c168 :: c169 :: c170 :: c171 :: c172 :: c173 :: c174 :: c175 :: c176 :: c177 :: c178 :: c179 :: c180 :: []), []⟩ w') :
    (Code.loop (keepLoop 1)).wp Tryd.prog Q0 ⟨List.toArray (c0 :: c1 :: c2 :: c3 :: c4 :: c5 :: c6 :: c7 :: c8 :: c9 :: .slice (some ⟨g, 0, none⟩) n n :: c11 :: c12 :: c13 :: c14 :: c15 :: c16 :: c17 :: c18 :: c19 :: c20 :: c21 :: c22 :: c23 :: c24 :: c25 :: c26 :: c27 :: c28 :: c29 :: c30 :: c31 :: c32 :: c33 :: c34 :: c35 :: c36 :: c37 :: c38 :: c39 :: c40 :: c41 :: c42 :: c43 :: c44 :: c45 :: c46 :: c47 :: c48 :: c49 :: c50 :: c51 :: c52 :: c53 :: c54 :: c55 :: c56 :: c57 :: c58 :: c59 :: c60 :: c61 :: c62 :: c63 :: c64 :: c65 :: c66 :: .int .i64 (n : Int) :: .int .i64 0 :: c69 :: c70 :: c71 :: c72 :: c73 :: c74 :: c75 :: c76 :: c77 :: c78 :: c79 :: c80 :: c81 :: c82 :: c83 :: c84 :: c85 :: c86 :: c87 :: c88 :: c89 :: c90 :: c91 :: c92 :: c93 :: c94 :: c95 :: c96 :: c97 :: c98 :: c99 :: c100 :: c101 :: c102 :: c103 :: c104 :: c105 :: c106 :: c107 :: c108 :: c109 :: c110 :: c111 :: c112 :: c113 :: c114 :: c115 :: c116 :: c117 :: c118 :: c119 :: c120 :: c121 :: c122 :: c123 :: c124 :: c125 :: c126 :: c127 :: c128 :: c129 :: c130 :: c131 :: c132 :: c133 :: c134 :: c135 :: c136 :: c137 :: c138 :: c139 :: c140 :: c141 :: c142 :: c143 :: c144 :: c145 :: c146 :: c147 :: c148 :: c149 :: c150 :: c151 :: c152 :: c153 :: c154 :: c155 :: c156 :: c157 :: c158 :: c159 :: c160 :: c161 :: c162 :: c163 :: c164 :: c165 :: c166 :: c167 :: c168 :: c169 :: c170 :: c171 :: c172 :: c173 :: c174 :: c175 :: c176 :: c177 :: c178 :: c179 :: c180 :: []), []⟩ w := by
  have HE := Lib.hid hexit
  have HB0 := Lib.hid hb
  clear hexit hb
  conv => arg 2; arg 1; whnf
  go_loopw [68] (fun j wr => ∃ k : Nat, k ≤ n ∧ j = .int .i64 k ∧ Hid (Blk wr g 4 (bools (List.replicate k true ++ List.replicate (n - k) false))) ∧ Hid (w.grownBy wr (some g))) (fun j _ => n - (intOf j).toNat)
  case atStart => exact ⟨0, Nat.zero_le _, rfl, HB0, Lib.hid (World.grownBy.refl w _)⟩
  case round =>
    obtain ⟨k, hk, rfl, HB, HG⟩ := hrel
    by_cases hlt : k < n
    · have i0 : ((k : Nat) : Int) < n := Int.ofNat_lt.2 hlt
      have i1 : (0 : Int) ≤ ((k : Nat) : Int) := Int.natCast_nonneg k
      have p0 : wr.cell? ⟨g, k, none⟩ = some (.bool false) := by
        rw [HB.out.cell k, bools_get (by simp; omega)]
        congr 2
        rw [List.getD_eq_getElem?_getD, List.getElem?_append_right (by simp), List.getElem?_replicate, if_pos (by simp; omega)]
        rfl
      have z0 := HB.out.frozen k
      have HB2 : Hid (Blk (wr.setCell ⟨g, k, none⟩ (.bool true)) g 4 (bools (List.replicate (k + 1) true ++ List.replicate (n - (k + 1)) false))) := Lib.hid (by
        have h := HB.out.set_ k (.bool true)
        rw [bools_set, show n - k = (n - (k + 1)) + 1 by omega, fillT] at h
        exact h)
      have HG2 : Hid (w.grownBy (wr.setCell ⟨g, k, none⟩ (.bool true)) (some g)) := Lib.hid (only_trans HG.out (set_own k _))
      have HLT := Lib.hid hlt
      clear hk hlt
      go_wp2
      exact ⟨⟨k + 1, HLT.out, by simp, HB2, HG2⟩, by have := HLT.out; simp [intOf]; omega⟩
    · obtain rfl : n = k := by omega
      have i0 : ¬ ((n : Nat) : Int) < n := by omega
      have HBX : Blk wr g 4 (bools (List.replicate n true)) := by have := HB.out; rwa [Nat.sub_self, List.replicate_zero, List.append_nil] at this
      have HGX := HG.out
      clear hk hlt
      go_wp2
      refine HE.out _ _ _ _ _ _ _ _ HBX HGX
end Go.Proofs.YtpmadlkkldbceaaDoor
