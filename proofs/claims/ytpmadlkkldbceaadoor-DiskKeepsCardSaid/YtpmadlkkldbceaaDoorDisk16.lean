/- DiskKeeps' inner loop: is a sector what one of the acts wrote? -/
import Derived.Test.YtpmadlkkldbceaaDoorDisk15
import Derived.Test.YtpmadlkkldbceaaDoorZer2
namespace Go.Proofs.YtpmadlkkldbceaaDoor
open Go Go.RowKit
def loopsOfK : Code → List Code
  | .loop c => c :: loopsOfK c
  | .seq a b => loopsOfK a ++ loopsOfK b
  | .block _ c => loopsOfK c
  | .scope c => loopsOfK c
  | .cond _ a b => loopsOfK a ++ loopsOfK b
  | _ => []
noncomputable def keepLoop (k : Nat) : Code := ((Tryd.f4.body.map loopsOfK).getD []).getD k .skip
def actCells0 : List Value := [.int .i64 0, .int .i64 0, .slice none 0 0, .slice none 0 0]
theorem act_size : (Tryd.prog.info? 35).map (·.size) = some 4 := by kernel_rfl
theorem act_one (x : ActD) : x.cells.toArray.all (·.oneCell') = true := by simp [ActD.cells, Value.oneCell']
theorem padB_byte {bs : List Nat} (h : Sha.Byte bs) : Sha.Byte (padB bs) := fun i => by
  unfold padB
  rw [List.getD_eq_getElem?_getD]
  by_cases hi : i < bs.length
  · rw [List.getElem?_append_left hi, ← List.getD_eq_getElem?_getD]; exact h i
  · rw [List.getElem?_append_right (by omega)]
    rcases Nat.lt_or_ge (i - bs.length) (32 - bs.length) with h1 | h1
    · rw [List.getElem?_replicate, if_pos h1]; decide
    · rw [List.getElem?_eq_none (by simp; omega)]; decide
def KS (box : Nat) (x : ActD) (gn : Nat) (now : List Nat) (w : World) : Prop :=
  w.cell? ⟨box, 0, none⟩ = some (.int .i64 x.kind) ∧ w.cell? ⟨box, 1, none⟩ = some (.int .i64 x.n) ∧ w.cell? ⟨box, 2, none⟩ = some (.slice x.A x.l x.c) ∧ (convert 32 9 (.slice (some ⟨gn, 0, none⟩) 32 32)).run Tryd.prog w = .ok (.string (textOf now)) w
theorem KS.of {box gn : Nat} {x : ActD} {now : List Nat} {w w' : World} {t : TypeId} (hb : Blk w box t x.cells.toArray) (hr : Rd w (.slice (some ⟨gn, 0, none⟩) 32 32) now) (h : Below w.heap.size w w') : KS box x gn now w' :=
  ⟨(hb.below h hb.lt).cell 0, (hb.below h hb.lt).cell 1, (hb.below h hb.lt).cell 2, conv_rd (hr.below h (Nat.le_refl _))⟩
set_option maxRecDepth 100000 in
set_option maxHeartbeats 4000000 in
theorem keep4_any (c0 c1 c2 c3 c4 c5 c6 c7 c8 c9 c10 c11 c12 c14 c15 c16 c17 c19 c20 c21 c23 c24 c25 c26 c27 c28 c29 c30 c31 c32 c33 c34 c35 c36 c37 c38 c39 c40 c41 c42 c43 c44 c45 c46 c47 c48 c49 c50 c51 c52 c53 c54 c55 c56 c57 c58 c59 c60 c61 c62 c63 c64 c65 c66 c67 c68 c69 c70 c71 c72 c73 c74 c75 c76 c77 c78 c79 c80 c81 c82 c83 c84 c85 c86 c87 c88 c89 c90 c91 c92 c93 c94 c95 c96 c97 c98 c99 c100 c101 c102 c103 c104 c105 c106 c107 c108 c109 c110 c111 c112 c113 c114 c115 c116 c117 c118 c119 c120 c121 c122 c123 c124 c125 c126 c130 c131 c132 c133 c134 c135 c136 c137 c138 c139 c140 c141 c142 c143 c144 c145 c146 c147 c148 c149 c150 c151 c152 c153 c154 c155 c156 c157 c158 c159 c160 c161 c162 c163 c164 c165 c166 c167 c168 c169 c170 c171 c172 c173 c174 c175 c176 c177 c178 c179 c180 : Value) (A : Option Addr) (n c b o gn i : Nat) (b0 : Bool) (xs : List ActD) (now safe : List Nat) (w : World) (Q0 : Exit → Act → World → Prop) (hA : 0 < n → A = some ⟨b, o, none⟩) (hn : xs.length = n) (hx : ARow w b o xs) (hnl : now.length = 32) (hnb : Sha.Byte now) (hr : Rd w (.slice (some ⟨gn, 0, none⟩) 32 32) now) (h60 : n ≤ 60) (h0 : b0 = Dk.got now safe i xs 0)
    (hQ : ∀ ch (a : Act) dst v (w : World), Q0 (.panic ch) (Act.put a dst v) w → Q0 (.panic ch) a w)
    (hexit : ∀ (u24 u130 u131 u132 u133 u134 u135 u136 u137 u138 u139 u140 u141 u142 u143 u144 u145 u146 u147 u148 u149 u150 u151 u152 u153 u154 u155 u156 u157 u158 u159 u160 u161 u162 u163 u164 u165 u166 u167 u168 u169 : Value) (w' : World), Below w.heap.size w w' → Q0 (.exit 6) ⟨List.toArray (c0 :: c1 :: c2 :: c3 :: c4 :: c5 :: c6 :: c7 :: c8 :: c9 :: c10 :: c11 :: c12 :: .int .i64 (i : Int) :: c14 :: c15 :: c16 :: c17 :: .slice (some ⟨gn, 0, none⟩) 32 32 :: c19 :: c20 :: c21 :: .bool (Dk.got now safe i xs n) :: c23 :: u24 :: c25 :: c26 :: c27 :: c28 :: c29 :: c30 :: c31 :: c32 :: c33 :: c34 :: c35 :: c36 :: c37 :: c38 :: c39 :: c40 :: c41 :: c42 :: c43 :: c44 :: c45 :: c46 :: c47 :: c48 :: c49 :: c50 :: c51 :: c52 :: c53 :: c54 :: c55 :: c56 :: c57 :: c58 :: c59 :: c60 :: c61 :: c62 :: c63 :: c64 :: c65 :: c66 :: c67 :: c68 :: c69 :: c70 :: c71 :: c72 :: c73 :: c74 :: c75 :: c76 :: c77 :: c78 :: c79 :: c80 :: c81 :: c82 :: c83 :: c84 :: c85 :: c86 :: c87 :: c88 :: c89 :: c90 :: c91 :: c92 :: c93 :: c94 :: c95 :: c96 :: c97 :: c98 :: c99 :: c100 :: c101 :: c102 :: c103 :: c104 :: c105 :: c106 :: c107 :: c108 :: c109 :: c110 :: c111 :: c112 :: c113 :: c114 :: c115 :: c116 :: c117 :: c118 :: c119 :: c120 :: c121 :: c122 :: c123 :: c124 :: c125 :: c126 :: .slice A n c :: .int .i64 (n : Int) :: .int .i64 (n : Int) :: u130 :: u131 :: u132 :: u133 :: u134 :: u135 :: u136 :: u137 :: u138 :: u139 :: u140 :: u141 :: u142 :: u143 :: u144 :: u145 :: u146 :: u147 :: u148 :: u149 :: u150 :: u151 :: u152 :: u153 :: u154 :: u155 :: u156 :: u157 :: u158 :: u159 :: u160 :: u161 :: u162 :: u163 :: u164 :: u165 :: u166 :: u167 :: u168 :: u169 :: c170 :: c171 :: c172 :: c173 :: c174 :: c175 :: c176 :: c177 :: c178 :: c179 :: c180 :: []), []⟩ w') :
    (Code.loop (keepLoop 3)).wp Tryd.prog Q0 ⟨List.toArray (c0 :: c1 :: c2 :: c3 :: c4 :: c5 :: c6 :: c7 :: c8 :: c9 :: c10 :: c11 :: c12 :: .int .i64 (i : Int) :: c14 :: c15 :: c16 :: c17 :: .slice (some ⟨gn, 0, none⟩) 32 32 :: c19 :: c20 :: c21 :: .bool b0 :: c23 :: c24 :: c25 :: c26 :: c27 :: c28 :: c29 :: c30 :: c31 :: c32 :: c33 :: c34 :: c35 :: c36 :: c37 :: c38 :: c39 :: c40 :: c41 :: c42 :: c43 :: c44 :: c45 :: c46 :: c47 :: c48 :: c49 :: c50 :: c51 :: c52 :: c53 :: c54 :: c55 :: c56 :: c57 :: c58 :: c59 :: c60 :: c61 :: c62 :: c63 :: c64 :: c65 :: c66 :: c67 :: c68 :: c69 :: c70 :: c71 :: c72 :: c73 :: c74 :: c75 :: c76 :: c77 :: c78 :: c79 :: c80 :: c81 :: c82 :: c83 :: c84 :: c85 :: c86 :: c87 :: c88 :: c89 :: c90 :: c91 :: c92 :: c93 :: c94 :: c95 :: c96 :: c97 :: c98 :: c99 :: c100 :: c101 :: c102 :: c103 :: c104 :: c105 :: c106 :: c107 :: c108 :: c109 :: c110 :: c111 :: c112 :: c113 :: c114 :: c115 :: c116 :: c117 :: c118 :: c119 :: c120 :: c121 :: c122 :: c123 :: c124 :: c125 :: c126 :: .slice A n c :: .int .i64 (n : Int) :: .int .i64 0 :: c130 :: c131 :: c132 :: c133 :: c134 :: c135 :: c136 :: c137 :: c138 :: c139 :: c140 :: c141 :: c142 :: c143 :: c144 :: c145 :: c146 :: c147 :: c148 :: c149 :: c150 :: c151 :: c152 :: c153 :: c154 :: c155 :: c156 :: c157 :: c158 :: c159 :: c160 :: c161 :: c162 :: c163 :: c164 :: c165 :: c166 :: c167 :: c168 :: c169 :: c170 :: c171 :: c172 :: c173 :: c174 :: c175 :: c176 :: c177 :: c178 :: c179 :: c180 :: []), []⟩ w := by
  have HX := Lib.hid hx
  have HA := Lib.hid hA
  have HN := Lib.hid hn
  have HE := Lib.hid hexit
  have HRN := Lib.hid hr
  have HNL := Lib.hid hnl
  have HNB := Lib.hid hnb
  clear hx hA hn hexit hr hnl hnb
  conv => arg 2; arg 1; whnf
  go_loopw [22, 129] (fun u j wr => ∃ k : Nat, k ≤ n ∧ j = .int .i64 k ∧ u = .bool (Dk.got now safe i xs k) ∧ Hid (Below w.heap.size w wr)) (fun _ j _ => n - (intOf j).toNat)
  case atStart => exact ⟨0, Nat.zero_le _, rfl, by rw [h0], Lib.hid (Below.refl _ _)⟩
  case round =>
    obtain ⟨k, hk, rfl, rfl, HB⟩ := hrel
    clear h0
    by_cases hlt : k < n
    · have i0 : ((k : Nat) : Int) < n := Int.ofNat_lt.2 hlt
      have i1 : (0 : Int) ≤ ((k : Nat) : Int) := Int.natCast_nonneg k
      obtain ⟨x, hxk⟩ : ∃ x, xs[k]? = some x := ⟨xs[k]'(by rw [HN.out]; exact hlt), List.getElem?_eq_getElem _⟩
      obtain rfl := HA.out (by omega)
      have HXK := Lib.hid hxk
      have HOK := Lib.hid ((HX.out.below HB.out (Nat.le_refl _)).ok x (List.mem_of_getElem? hxk))
      have HG : Hid (wr.rangeAt b (o + k * 4) x.cells) := Lib.hid (by have := (HX.out.below HB.out (Nat.le_refl _)).row k x hxk; rwa [Nat.mul_comm] at this)
      have HB1 : Hid (Blk (wr.alloc (.cells actCells0.toArray 35)) wr.heap.size 35 actCells0.toArray) := Lib.hid (Blk.new wr _ _)
      have HZ : Hid (Blk ((wr.alloc (.cells actCells0.toArray 35)).setRow wr.heap.size x.cells.toArray) wr.heap.size 35 x.cells.toArray) := Lib.hid (HB1.out.row _)
      have HBW : Hid (Below wr.heap.size wr ((wr.alloc (.cells actCells0.toArray 35)).setRow wr.heap.size x.cells.toArray)) := Lib.hid (below_row ((Below.refl _ _).alloc (Nat.le_refl _) _) (Nat.le_refl _) _)
      have HRZ : Hid (Rd ((wr.alloc (.cells actCells0.toArray 35)).setRow wr.heap.size x.cells.toArray) (.slice (some ⟨gn, 0, none⟩) 32 32) now) := Lib.hid ((HRN.out.below HB.out (Nat.le_refl _)).below HBW.out (Nat.le_refl _))
      have HST : Hid (Dk.got now safe i xs (k + 1) = (Dk.got now safe i xs k || Dk.hit now i x)) := Lib.hid (Dk.got_step hxk)
      have HLT := Lib.hid hlt
      clear hxk hk hlt
      go_wp2_with (first
        | (refine wpList_load_mid rfl 35 (.tmp 131) rfl b (o + k * 4) rfl x.cells _ HG.out Tryd.underlying35 rfl act_size ?_)
        | (refine wpList_store_row rfl 35 (.tmp 24) (.tmp 132) rfl wr.heap.size x.cells.toArray rfl rfl 35 actCells0.toArray HB1.out act_size rfl (act_one x) ?_; change wpList _ _ _ _ _ ((wr.alloc (.cells actCells0.toArray 35)).setRow wr.heap.size x.cells.toArray); generalize ((wr.alloc (.cells actCells0.toArray 35)).setRow wr.heap.size x.cells.toArray) = wz at *))
      have HBF : Hid (Below w.heap.size w wz) := Lib.hid (HB.out.trans (HBW.out.mono HB.out.size))
      have HS : Hid ((KS wr.heap.size x gn now) wz.drew) := Lib.hid (KS.of HZ.out HRZ.out (below_drewN (Below.refl _ wz) 1))
      have HKS : Hid (∀ w8, Below wz.heap.size wz w8 → (KS wr.heap.size x gn now) w8) := Lib.hid (fun w8 h => KS.of HZ.out HRZ.out h)
      clear HA HE HN
      generalize Dk.got now safe i xs k = g0 at HST ⊢
      cases g0 with
      | true =>
        refine wp_region_held (S := (KS wr.heap.size x gn now)) (by kernel_rfl) ?_
        change wpAnyH _ _ _ _ _ _ _ _ wz.drew
        refine wpAnyH_take (i := 0) (v := ?_) rfl (by kernel_rfl) (by kernel_rfl) (by kernel_rfl) (fun ch _ _ h => hQ ch _ _ _ _ h) (Or.inl ⟨by rfl, ?_⟩) (HS.out) ?_
        rotate_left
        · intro w8 hw8; obtain ⟨k0, k1, k2, k3⟩ := hw8; go_simp; with_reducible rfl
        try simp only [Act.put, List.getElem_toArray, List.getElem_cons_zero, List.getElem_cons_succ, List.setIfInBounds_toArray, List.set_cons_zero, List.set_cons_succ]
        refine wpAnyH_take (i := 1) (v := ?_) rfl (by kernel_rfl) (by kernel_rfl) (by kernel_rfl) (fun ch _ _ h => hQ ch _ _ _ _ h) (Or.inl ⟨by rfl, ?_⟩) (HS.out) ?_
        rotate_left
        · intro w8 hw8; obtain ⟨k0, k1, k2, k3⟩ := hw8; go_simp; with_reducible rfl
        try simp only [Act.put, List.getElem_toArray, List.getElem_cons_zero, List.getElem_cons_succ, List.setIfInBounds_toArray, List.set_cons_zero, List.set_cons_succ]
        refine wpAnyH_take (i := 2) (v := undef) rfl (by kernel_rfl) (by kernel_rfl) (by kernel_rfl) (fun ch _ _ h => hQ ch _ _ _ _ h) (Or.inr ⟨by rfl, rfl⟩) (HS.out) ?_
        try simp only [Act.put, List.getElem_toArray, List.getElem_cons_zero, List.getElem_cons_succ, List.setIfInBounds_toArray, List.set_cons_zero, List.set_cons_succ]
        refine wpAnyH_take (i := 3) (v := undef) rfl (by kernel_rfl) (by kernel_rfl) (by kernel_rfl) (fun ch _ _ h => hQ ch _ _ _ _ h) (Or.inr ⟨by rfl, rfl⟩) (HS.out) ?_
        try simp only [Act.put, List.getElem_toArray, List.getElem_cons_zero, List.getElem_cons_succ, List.setIfInBounds_toArray, List.set_cons_zero, List.set_cons_succ]
        refine wpAnyH_take (i := 4) (v := undef) rfl (by kernel_rfl) (by kernel_rfl) (by kernel_rfl) (fun ch _ _ h => hQ ch _ _ _ _ h) (Or.inr ⟨by rfl, rfl⟩) (HS.out) ?_
        try simp only [Act.put, List.getElem_toArray, List.getElem_cons_zero, List.getElem_cons_succ, List.setIfInBounds_toArray, List.set_cons_zero, List.set_cons_succ]
        refine wpAnyH_take (i := 5) (v := undef) rfl (by kernel_rfl) (by kernel_rfl) (by kernel_rfl) (fun ch _ _ h => hQ ch _ _ _ _ h) (Or.inr ⟨by rfl, rfl⟩) (HS.out) ?_
        try simp only [Act.put, List.getElem_toArray, List.getElem_cons_zero, List.getElem_cons_succ, List.setIfInBounds_toArray, List.set_cons_zero, List.set_cons_succ]
        refine wpAnyH_take (i := 6) (v := undef) rfl (by kernel_rfl) (by kernel_rfl) (by kernel_rfl) (fun ch _ _ h => hQ ch _ _ _ _ h) (Or.inr ⟨by rfl, rfl⟩) (HS.out) ?_
        try simp only [Act.put, List.getElem_toArray, List.getElem_cons_zero, List.getElem_cons_succ, List.setIfInBounds_toArray, List.set_cons_zero, List.set_cons_succ]
        refine wpAnyH_take (i := 7) (v := undef) rfl (by kernel_rfl) (by kernel_rfl) (by kernel_rfl) (fun ch _ _ h => hQ ch _ _ _ _ h) (Or.inr ⟨by rfl, rfl⟩) (HS.out) ?_
        try simp only [Act.put, List.getElem_toArray, List.getElem_cons_zero, List.getElem_cons_succ, List.setIfInBounds_toArray, List.set_cons_zero, List.set_cons_succ]
        refine wpAnyH_take (i := 8) (v := undef) rfl (by kernel_rfl) (by kernel_rfl) (by kernel_rfl) (fun ch _ _ h => hQ ch _ _ _ _ h) (Or.inr ⟨by rfl, rfl⟩) (HS.out) ?_
        try simp only [Act.put, List.getElem_toArray, List.getElem_cons_zero, List.getElem_cons_succ, List.setIfInBounds_toArray, List.set_cons_zero, List.set_cons_succ]
        refine wpAnyH_take (i := 9) (v := undef) rfl (by kernel_rfl) (by kernel_rfl) (by kernel_rfl) (fun ch _ _ h => hQ ch _ _ _ _ h) (Or.inr ⟨by rfl, rfl⟩) (HS.out) ?_
        try simp only [Act.put, List.getElem_toArray, List.getElem_cons_zero, List.getElem_cons_succ, List.setIfInBounds_toArray, List.set_cons_zero, List.set_cons_succ]
        refine wpAnyH_take (i := 10) (v := undef) rfl (by kernel_rfl) (by kernel_rfl) (by kernel_rfl) (fun ch _ _ h => hQ ch _ _ _ _ h) (Or.inr ⟨by rfl, rfl⟩) (HS.out) ?_
        try simp only [Act.put, List.getElem_toArray, List.getElem_cons_zero, List.getElem_cons_succ, List.setIfInBounds_toArray, List.set_cons_zero, List.set_cons_succ]
        refine wpAnyH_take (i := 11) (v := undef) rfl (by kernel_rfl) (by kernel_rfl) (by kernel_rfl) (fun ch _ _ h => hQ ch _ _ _ _ h) (Or.inr ⟨by rfl, rfl⟩) (HS.out) ?_
        try simp only [Act.put, List.getElem_toArray, List.getElem_cons_zero, List.getElem_cons_succ, List.setIfInBounds_toArray, List.set_cons_zero, List.set_cons_succ]
        refine wpAnyH_take (i := 12) (v := undef) rfl (by kernel_rfl) (by kernel_rfl) (by kernel_rfl) (fun ch _ _ h => hQ ch _ _ _ _ h) (Or.inr ⟨by rfl, rfl⟩) (HS.out) ?_
        try simp only [Act.put, List.getElem_toArray, List.getElem_cons_zero, List.getElem_cons_succ, List.setIfInBounds_toArray, List.set_cons_zero, List.set_cons_succ]
        refine wpAnyH_take (i := 13) (v := undef) rfl (by kernel_rfl) (by kernel_rfl) (by kernel_rfl) (fun ch _ _ h => hQ ch _ _ _ _ h) (Or.inr ⟨by rfl, rfl⟩) (HS.out) ?_
        try simp only [Act.put, List.getElem_toArray, List.getElem_cons_zero, List.getElem_cons_succ, List.setIfInBounds_toArray, List.set_cons_zero, List.set_cons_succ]
        refine wpAnyH_take (i := 14) (v := undef) rfl (by kernel_rfl) (by kernel_rfl) (by kernel_rfl) (fun ch _ _ h => hQ ch _ _ _ _ h) (Or.inr ⟨by rfl, rfl⟩) (HS.out) ?_
        try simp only [Act.put, List.getElem_toArray, List.getElem_cons_zero, List.getElem_cons_succ, List.setIfInBounds_toArray, List.set_cons_zero, List.set_cons_succ]
        refine wpAnyH_take (i := 15) (v := undef) rfl (by kernel_rfl) (by kernel_rfl) (by kernel_rfl) (fun ch _ _ h => hQ ch _ _ _ _ h) (Or.inr ⟨by rfl, rfl⟩) (HS.out) ?_
        try simp only [Act.put, List.getElem_toArray, List.getElem_cons_zero, List.getElem_cons_succ, List.setIfInBounds_toArray, List.set_cons_zero, List.set_cons_succ]
        refine wpAnyH_take (i := 16) (v := undef) rfl (by kernel_rfl) (by kernel_rfl) (by kernel_rfl) (fun ch _ _ h => hQ ch _ _ _ _ h) (Or.inr ⟨by rfl, rfl⟩) (HS.out) ?_
        try simp only [Act.put, List.getElem_toArray, List.getElem_cons_zero, List.getElem_cons_succ, List.setIfInBounds_toArray, List.set_cons_zero, List.set_cons_succ]
        refine wpAnyH_take (i := 17) (v := undef) rfl (by kernel_rfl) (by kernel_rfl) (by kernel_rfl) (fun ch _ _ h => hQ ch _ _ _ _ h) (Or.inr ⟨by rfl, rfl⟩) (HS.out) ?_
        try simp only [Act.put, List.getElem_toArray, List.getElem_cons_zero, List.getElem_cons_succ, List.setIfInBounds_toArray, List.set_cons_zero, List.set_cons_succ]
        refine wpAnyH_take (i := 18) (v := undef) rfl (by kernel_rfl) (by kernel_rfl) (by kernel_rfl) (fun ch _ _ h => hQ ch _ _ _ _ h) (Or.inr ⟨by rfl, rfl⟩) (HS.out) ?_
        try simp only [Act.put, List.getElem_toArray, List.getElem_cons_zero, List.getElem_cons_succ, List.setIfInBounds_toArray, List.set_cons_zero, List.set_cons_succ]
        refine wpAnyH_take (i := 19) (v := undef) rfl (by kernel_rfl) (by kernel_rfl) (by kernel_rfl) (fun ch _ _ h => hQ ch _ _ _ _ h) (Or.inr ⟨by rfl, rfl⟩) (HS.out) ?_
        try simp only [Act.put, List.getElem_toArray, List.getElem_cons_zero, List.getElem_cons_succ, List.setIfInBounds_toArray, List.set_cons_zero, List.set_cons_succ]
        refine wpAnyH_take (i := 20) (v := undef) rfl (by kernel_rfl) (by kernel_rfl) (by kernel_rfl) (fun ch _ _ h => hQ ch _ _ _ _ h) (Or.inr ⟨by rfl, rfl⟩) (HS.out) ?_
        try simp only [Act.put, List.getElem_toArray, List.getElem_cons_zero, List.getElem_cons_succ, List.setIfInBounds_toArray, List.set_cons_zero, List.set_cons_succ]
        refine wpAnyH_take (i := 21) (v := undef) rfl (by kernel_rfl) (by kernel_rfl) (by kernel_rfl) (fun ch _ _ h => hQ ch _ _ _ _ h) (Or.inr ⟨by rfl, rfl⟩) (HS.out) ?_
        try simp only [Act.put, List.getElem_toArray, List.getElem_cons_zero, List.getElem_cons_succ, List.setIfInBounds_toArray, List.set_cons_zero, List.set_cons_succ]
        refine wpAnyH_take (i := 22) (v := undef) rfl (by kernel_rfl) (by kernel_rfl) (by kernel_rfl) (fun ch _ _ h => hQ ch _ _ _ _ h) (Or.inr ⟨by rfl, rfl⟩) (HS.out) ?_
        try simp only [Act.put, List.getElem_toArray, List.getElem_cons_zero, List.getElem_cons_succ, List.setIfInBounds_toArray, List.set_cons_zero, List.set_cons_succ]
        refine wpAnyH_take (i := 23) (v := undef) rfl (by kernel_rfl) (by kernel_rfl) (by kernel_rfl) (fun ch _ _ h => hQ ch _ _ _ _ h) (Or.inr ⟨by rfl, rfl⟩) (HS.out) ?_
        try simp only [Act.put, List.getElem_toArray, List.getElem_cons_zero, List.getElem_cons_succ, List.setIfInBounds_toArray, List.set_cons_zero, List.set_cons_succ]
        refine wpAnyH_take (i := 24) (v := undef) rfl (by kernel_rfl) (by kernel_rfl) (by kernel_rfl) (fun ch _ _ h => hQ ch _ _ _ _ h) (Or.inr ⟨by rfl, rfl⟩) (HS.out) ?_
        try simp only [Act.put, List.getElem_toArray, List.getElem_cons_zero, List.getElem_cons_succ, List.setIfInBounds_toArray, List.set_cons_zero, List.set_cons_succ]
        refine wpAnyH_take (i := 25) (v := undef) rfl (by kernel_rfl) (by kernel_rfl) (by kernel_rfl) (fun ch _ _ h => hQ ch _ _ _ _ h) (Or.inr ⟨by rfl, rfl⟩) (HS.out) ?_
        try simp only [Act.put, List.getElem_toArray, List.getElem_cons_zero, List.getElem_cons_succ, List.setIfInBounds_toArray, List.set_cons_zero, List.set_cons_succ]
        refine wpAnyH_take (i := 26) (v := undef) rfl (by kernel_rfl) (by kernel_rfl) (by kernel_rfl) (fun ch _ _ h => hQ ch _ _ _ _ h) (Or.inr ⟨by rfl, rfl⟩) (HS.out) ?_
        try simp only [Act.put, List.getElem_toArray, List.getElem_cons_zero, List.getElem_cons_succ, List.setIfInBounds_toArray, List.set_cons_zero, List.set_cons_succ]
        refine wpAnyH_take (i := 27) (v := undef) rfl (by kernel_rfl) (by kernel_rfl) (by kernel_rfl) (fun ch _ _ h => hQ ch _ _ _ _ h) (Or.inr ⟨by rfl, rfl⟩) (HS.out) ?_
        try simp only [Act.put, List.getElem_toArray, List.getElem_cons_zero, List.getElem_cons_succ, List.setIfInBounds_toArray, List.set_cons_zero, List.set_cons_succ]
        refine wpAnyH_take (i := 28) (v := undef) rfl (by kernel_rfl) (by kernel_rfl) (by kernel_rfl) (fun ch _ _ h => hQ ch _ _ _ _ h) (Or.inr ⟨by rfl, rfl⟩) (HS.out) ?_
        try simp only [Act.put, List.getElem_toArray, List.getElem_cons_zero, List.getElem_cons_succ, List.setIfInBounds_toArray, List.set_cons_zero, List.set_cons_succ]
        refine wpAnyH_take (i := 29) (v := undef) rfl (by kernel_rfl) (by kernel_rfl) (by kernel_rfl) (fun ch _ _ h => hQ ch _ _ _ _ h) (Or.inr ⟨by rfl, rfl⟩) (HS.out) ?_
        try simp only [Act.put, List.getElem_toArray, List.getElem_cons_zero, List.getElem_cons_succ, List.setIfInBounds_toArray, List.set_cons_zero, List.set_cons_succ]
        refine wpAnyH_take (i := 30) (v := undef) rfl (by kernel_rfl) (by kernel_rfl) (by kernel_rfl) (fun ch _ _ h => hQ ch _ _ _ _ h) (Or.inr ⟨by rfl, rfl⟩) (HS.out) ?_
        try simp only [Act.put, List.getElem_toArray, List.getElem_cons_zero, List.getElem_cons_succ, List.setIfInBounds_toArray, List.set_cons_zero, List.set_cons_succ]
        refine wpAnyH_take (i := 31) (v := undef) rfl (by kernel_rfl) (by kernel_rfl) (by kernel_rfl) (fun ch _ _ h => hQ ch _ _ _ _ h) (Or.inr ⟨by rfl, rfl⟩) (HS.out) ?_
        try simp only [Act.put, List.getElem_toArray, List.getElem_cons_zero, List.getElem_cons_succ, List.setIfInBounds_toArray, List.set_cons_zero, List.set_cons_succ]
        refine wpAnyH_take (i := 32) (v := undef) rfl (by kernel_rfl) (by kernel_rfl) (by kernel_rfl) (fun ch _ _ h => hQ ch _ _ _ _ h) (Or.inr ⟨by rfl, rfl⟩) (HS.out) ?_
        try simp only [Act.put, List.getElem_toArray, List.getElem_cons_zero, List.getElem_cons_succ, List.setIfInBounds_toArray, List.set_cons_zero, List.set_cons_succ]
        refine wpAnyH_take (i := 33) (v := undef) rfl (by kernel_rfl) (by kernel_rfl) (by kernel_rfl) (fun ch _ _ h => hQ ch _ _ _ _ h) (Or.inr ⟨by rfl, rfl⟩) (HS.out) ?_
        try simp only [Act.put, List.getElem_toArray, List.getElem_cons_zero, List.getElem_cons_succ, List.setIfInBounds_toArray, List.set_cons_zero, List.set_cons_succ]
        refine wpAnyH_take (i := 34) (v := undef) rfl (by kernel_rfl) (by kernel_rfl) (by kernel_rfl) (fun ch _ _ h => hQ ch _ _ _ _ h) (Or.inr ⟨by rfl, rfl⟩) (HS.out) ?_
        try simp only [Act.put, List.getElem_toArray, List.getElem_cons_zero, List.getElem_cons_succ, List.setIfInBounds_toArray, List.set_cons_zero, List.set_cons_succ]
        refine wpAnyH_take (i := 35) (v := ?_) rfl (by kernel_rfl) (by kernel_rfl) (by kernel_rfl) (fun ch _ _ h => hQ ch _ _ _ _ h) (Or.inl ⟨by rfl, ?_⟩) (HS.out) ?_
        rotate_left
        · intro w8 hw8; obtain ⟨k0, k1, k2, k3⟩ := hw8; go_simp; with_reducible rfl
        try simp only [Act.put, List.getElem_toArray, List.getElem_cons_zero, List.getElem_cons_succ, List.setIfInBounds_toArray, List.set_cons_zero, List.set_cons_succ]
        refine wpAnyH_take (i := 36) (v := ?_) rfl (by kernel_rfl) (by kernel_rfl) (by kernel_rfl) (fun ch _ _ h => hQ ch _ _ _ _ h) (Or.inl ⟨by rfl, ?_⟩) (HS.out) ?_
        rotate_left
        · intro w8 hw8; obtain ⟨k0, k1, k2, k3⟩ := hw8; go_simp; with_reducible rfl
        try simp only [Act.put, List.getElem_toArray, List.getElem_cons_zero, List.getElem_cons_succ, List.setIfInBounds_toArray, List.set_cons_zero, List.set_cons_succ]
        refine wpAnyH_done (by kernel_rfl) ?_ _
        go_wp2
        exact ⟨⟨k + 1, HLT.out, by simp, by rw [HST.out]; rfl, Lib.hid (below_drewN HBF.out 1)⟩, by have := HLT.out; simp [intOf]; omega⟩
      | false =>
        by_cases hk1 : x.kind = 1
        · have HH : Hid (Dk.hit now i x = false) := Lib.hid (by unfold Dk.hit; simp [hk1])
          clear HOK
          refine wp_region_held (S := (KS wr.heap.size x gn now)) (by kernel_rfl) ?_
          change wpAnyH _ _ _ _ _ _ _ _ wz.drew
          refine wpAnyH_take (i := 0) (v := ?_) rfl (by kernel_rfl) (by kernel_rfl) (by kernel_rfl) (fun ch _ _ h => hQ ch _ _ _ _ h) (Or.inl ⟨by rfl, ?_⟩) (HS.out) ?_
          rotate_left
          · intro w8 hw8; obtain ⟨k0, k1, k2, k3⟩ := hw8; go_simp; with_reducible rfl
          try simp only [Act.put, List.getElem_toArray, List.getElem_cons_zero, List.getElem_cons_succ, List.setIfInBounds_toArray, List.set_cons_zero, List.set_cons_succ]
          refine wpAnyH_take (i := 1) (v := ?_) rfl (by kernel_rfl) (by kernel_rfl) (by kernel_rfl) (fun ch _ _ h => hQ ch _ _ _ _ h) (Or.inl ⟨by rfl, ?_⟩) (HS.out) ?_
          rotate_left
          · intro w8 hw8; obtain ⟨k0, k1, k2, k3⟩ := hw8; go_simp; with_reducible rfl
          try simp only [Act.put, List.getElem_toArray, List.getElem_cons_zero, List.getElem_cons_succ, List.setIfInBounds_toArray, List.set_cons_zero, List.set_cons_succ]
          refine wpAnyH_take (i := 2) (v := ?_) rfl (by kernel_rfl) (by kernel_rfl) (by kernel_rfl) (fun ch _ _ h => hQ ch _ _ _ _ h) (Or.inl ⟨by rfl, ?_⟩) (HS.out) ?_
          rotate_left
          · intro w8 hw8; obtain ⟨k0, k1, k2, k3⟩ := hw8; go_simp; with_reducible rfl
          try simp only [Act.put, List.getElem_toArray, List.getElem_cons_zero, List.getElem_cons_succ, List.setIfInBounds_toArray, List.set_cons_zero, List.set_cons_succ]
          refine wpAnyH_take (i := 3) (v := ?_) rfl (by kernel_rfl) (by kernel_rfl) (by kernel_rfl) (fun ch _ _ h => hQ ch _ _ _ _ h) (Or.inl ⟨by rfl, ?_⟩) (HS.out) ?_
          rotate_left
          · intro w8 hw8; obtain ⟨k0, k1, k2, k3⟩ := hw8; go_simp; with_reducible rfl
          try simp only [Act.put, List.getElem_toArray, List.getElem_cons_zero, List.getElem_cons_succ, List.setIfInBounds_toArray, List.set_cons_zero, List.set_cons_succ]
          refine wpAnyH_take (i := 4) (v := .bool false) rfl (by kernel_rfl) (by kernel_rfl) (by kernel_rfl) (fun ch _ _ h => hQ ch _ _ _ _ h) (Or.inl ⟨by rfl, ?_⟩) (HS.out) ?_
          · intro w8 hw8; obtain ⟨k0, k1, k2, k3⟩ := hw8; go_simp; try simp [hk1]
          try simp only [Act.put, List.getElem_toArray, List.getElem_cons_zero, List.getElem_cons_succ, List.setIfInBounds_toArray, List.set_cons_zero, List.set_cons_succ]
          refine wpAnyH_take (i := 5) (v := ?_) rfl (by kernel_rfl) (by kernel_rfl) (by kernel_rfl) (fun ch _ _ h => hQ ch _ _ _ _ h) (Or.inl ⟨by rfl, ?_⟩) (HS.out) ?_
          rotate_left
          · intro w8 hw8; obtain ⟨k0, k1, k2, k3⟩ := hw8; go_simp; with_reducible rfl
          try simp only [Act.put, List.getElem_toArray, List.getElem_cons_zero, List.getElem_cons_succ, List.setIfInBounds_toArray, List.set_cons_zero, List.set_cons_succ]
          refine wpAnyH_take (i := 6) (v := undef) rfl (by kernel_rfl) (by kernel_rfl) (by kernel_rfl) (fun ch _ _ h => hQ ch _ _ _ _ h) (Or.inr ⟨by rfl, rfl⟩) (HS.out) ?_
          try simp only [Act.put, List.getElem_toArray, List.getElem_cons_zero, List.getElem_cons_succ, List.setIfInBounds_toArray, List.set_cons_zero, List.set_cons_succ]
          refine wpAnyH_take (i := 7) (v := undef) rfl (by kernel_rfl) (by kernel_rfl) (by kernel_rfl) (fun ch _ _ h => hQ ch _ _ _ _ h) (Or.inr ⟨by rfl, rfl⟩) (HS.out) ?_
          try simp only [Act.put, List.getElem_toArray, List.getElem_cons_zero, List.getElem_cons_succ, List.setIfInBounds_toArray, List.set_cons_zero, List.set_cons_succ]
          refine wpAnyH_take (i := 8) (v := undef) rfl (by kernel_rfl) (by kernel_rfl) (by kernel_rfl) (fun ch _ _ h => hQ ch _ _ _ _ h) (Or.inr ⟨by rfl, rfl⟩) (HS.out) ?_
          try simp only [Act.put, List.getElem_toArray, List.getElem_cons_zero, List.getElem_cons_succ, List.setIfInBounds_toArray, List.set_cons_zero, List.set_cons_succ]
          refine wpAnyH_take (i := 9) (v := undef) rfl (by kernel_rfl) (by kernel_rfl) (by kernel_rfl) (fun ch _ _ h => hQ ch _ _ _ _ h) (Or.inr ⟨by rfl, rfl⟩) (HS.out) ?_
          try simp only [Act.put, List.getElem_toArray, List.getElem_cons_zero, List.getElem_cons_succ, List.setIfInBounds_toArray, List.set_cons_zero, List.set_cons_succ]
          refine wpAnyH_take (i := 10) (v := undef) rfl (by kernel_rfl) (by kernel_rfl) (by kernel_rfl) (fun ch _ _ h => hQ ch _ _ _ _ h) (Or.inr ⟨by rfl, rfl⟩) (HS.out) ?_
          try simp only [Act.put, List.getElem_toArray, List.getElem_cons_zero, List.getElem_cons_succ, List.setIfInBounds_toArray, List.set_cons_zero, List.set_cons_succ]
          refine wpAnyH_take (i := 11) (v := undef) rfl (by kernel_rfl) (by kernel_rfl) (by kernel_rfl) (fun ch _ _ h => hQ ch _ _ _ _ h) (Or.inr ⟨by rfl, rfl⟩) (HS.out) ?_
          try simp only [Act.put, List.getElem_toArray, List.getElem_cons_zero, List.getElem_cons_succ, List.setIfInBounds_toArray, List.set_cons_zero, List.set_cons_succ]
          refine wpAnyH_take (i := 12) (v := undef) rfl (by kernel_rfl) (by kernel_rfl) (by kernel_rfl) (fun ch _ _ h => hQ ch _ _ _ _ h) (Or.inr ⟨by rfl, rfl⟩) (HS.out) ?_
          try simp only [Act.put, List.getElem_toArray, List.getElem_cons_zero, List.getElem_cons_succ, List.setIfInBounds_toArray, List.set_cons_zero, List.set_cons_succ]
          refine wpAnyH_take (i := 13) (v := ?_) rfl (by kernel_rfl) (by kernel_rfl) (by kernel_rfl) (fun ch _ _ h => hQ ch _ _ _ _ h) (Or.inl ⟨by rfl, ?_⟩) (HS.out) ?_
          rotate_left
          · intro w8 hw8; obtain ⟨k0, k1, k2, k3⟩ := hw8; go_simp; with_reducible rfl
          try simp only [Act.put, List.getElem_toArray, List.getElem_cons_zero, List.getElem_cons_succ, List.setIfInBounds_toArray, List.set_cons_zero, List.set_cons_succ]
          refine wpAnyH_take (i := 14) (v := ?_) rfl (by kernel_rfl) (by kernel_rfl) (by kernel_rfl) (fun ch _ _ h => hQ ch _ _ _ _ h) (Or.inl ⟨by rfl, ?_⟩) (HS.out) ?_
          rotate_left
          · intro w8 hw8; obtain ⟨k0, k1, k2, k3⟩ := hw8; go_simp; with_reducible rfl
          try simp only [Act.put, List.getElem_toArray, List.getElem_cons_zero, List.getElem_cons_succ, List.setIfInBounds_toArray, List.set_cons_zero, List.set_cons_succ]
          refine wpAnyH_take (i := 15) (v := undef) rfl (by kernel_rfl) (by kernel_rfl) (by kernel_rfl) (fun ch _ _ h => hQ ch _ _ _ _ h) (Or.inr ⟨by rfl, rfl⟩) (HS.out) ?_
          try simp only [Act.put, List.getElem_toArray, List.getElem_cons_zero, List.getElem_cons_succ, List.setIfInBounds_toArray, List.set_cons_zero, List.set_cons_succ]
          refine wpAnyH_take (i := 16) (v := undef) rfl (by kernel_rfl) (by kernel_rfl) (by kernel_rfl) (fun ch _ _ h => hQ ch _ _ _ _ h) (Or.inr ⟨by rfl, rfl⟩) (HS.out) ?_
          try simp only [Act.put, List.getElem_toArray, List.getElem_cons_zero, List.getElem_cons_succ, List.setIfInBounds_toArray, List.set_cons_zero, List.set_cons_succ]
          refine wpAnyH_take (i := 17) (v := undef) rfl (by kernel_rfl) (by kernel_rfl) (by kernel_rfl) (fun ch _ _ h => hQ ch _ _ _ _ h) (Or.inr ⟨by rfl, rfl⟩) (HS.out) ?_
          try simp only [Act.put, List.getElem_toArray, List.getElem_cons_zero, List.getElem_cons_succ, List.setIfInBounds_toArray, List.set_cons_zero, List.set_cons_succ]
          refine wpAnyH_take (i := 18) (v := undef) rfl (by kernel_rfl) (by kernel_rfl) (by kernel_rfl) (fun ch _ _ h => hQ ch _ _ _ _ h) (Or.inr ⟨by rfl, rfl⟩) (HS.out) ?_
          try simp only [Act.put, List.getElem_toArray, List.getElem_cons_zero, List.getElem_cons_succ, List.setIfInBounds_toArray, List.set_cons_zero, List.set_cons_succ]
          refine wpAnyH_take (i := 19) (v := ?_) rfl (by kernel_rfl) (by kernel_rfl) (by kernel_rfl) (fun ch _ _ h => hQ ch _ _ _ _ h) (Or.inl ⟨by rfl, ?_⟩) (HS.out) ?_
          rotate_left
          · intro w8 hw8; obtain ⟨k0, k1, k2, k3⟩ := hw8; go_simp; with_reducible rfl
          try simp only [Act.put, List.getElem_toArray, List.getElem_cons_zero, List.getElem_cons_succ, List.setIfInBounds_toArray, List.set_cons_zero, List.set_cons_succ]
          refine wpAnyH_take (i := 20) (v := ?_) rfl (by kernel_rfl) (by kernel_rfl) (by kernel_rfl) (fun ch _ _ h => hQ ch _ _ _ _ h) (Or.inl ⟨by rfl, ?_⟩) (HS.out) ?_
          rotate_left
          · intro w8 hw8; obtain ⟨k0, k1, k2, k3⟩ := hw8; go_simp; with_reducible rfl
          try simp only [Act.put, List.getElem_toArray, List.getElem_cons_zero, List.getElem_cons_succ, List.setIfInBounds_toArray, List.set_cons_zero, List.set_cons_succ]
          refine wpAnyH_take (i := 21) (v := undef) rfl (by kernel_rfl) (by kernel_rfl) (by kernel_rfl) (fun ch _ _ h => hQ ch _ _ _ _ h) (Or.inr ⟨by rfl, rfl⟩) (HS.out) ?_
          try simp only [Act.put, List.getElem_toArray, List.getElem_cons_zero, List.getElem_cons_succ, List.setIfInBounds_toArray, List.set_cons_zero, List.set_cons_succ]
          refine wpAnyH_take (i := 22) (v := undef) rfl (by kernel_rfl) (by kernel_rfl) (by kernel_rfl) (fun ch _ _ h => hQ ch _ _ _ _ h) (Or.inr ⟨by rfl, rfl⟩) (HS.out) ?_
          try simp only [Act.put, List.getElem_toArray, List.getElem_cons_zero, List.getElem_cons_succ, List.setIfInBounds_toArray, List.set_cons_zero, List.set_cons_succ]
          refine wpAnyH_take (i := 23) (v := undef) rfl (by kernel_rfl) (by kernel_rfl) (by kernel_rfl) (fun ch _ _ h => hQ ch _ _ _ _ h) (Or.inr ⟨by rfl, rfl⟩) (HS.out) ?_
          try simp only [Act.put, List.getElem_toArray, List.getElem_cons_zero, List.getElem_cons_succ, List.setIfInBounds_toArray, List.set_cons_zero, List.set_cons_succ]
          refine wpAnyH_take (i := 24) (v := undef) rfl (by kernel_rfl) (by kernel_rfl) (by kernel_rfl) (fun ch _ _ h => hQ ch _ _ _ _ h) (Or.inr ⟨by rfl, rfl⟩) (HS.out) ?_
          try simp only [Act.put, List.getElem_toArray, List.getElem_cons_zero, List.getElem_cons_succ, List.setIfInBounds_toArray, List.set_cons_zero, List.set_cons_succ]
          refine wpAnyH_take (i := 25) (v := undef) rfl (by kernel_rfl) (by kernel_rfl) (by kernel_rfl) (fun ch _ _ h => hQ ch _ _ _ _ h) (Or.inr ⟨by rfl, rfl⟩) (HS.out) ?_
          try simp only [Act.put, List.getElem_toArray, List.getElem_cons_zero, List.getElem_cons_succ, List.setIfInBounds_toArray, List.set_cons_zero, List.set_cons_succ]
          refine wpAnyH_take (i := 26) (v := undef) rfl (by kernel_rfl) (by kernel_rfl) (by kernel_rfl) (fun ch _ _ h => hQ ch _ _ _ _ h) (Or.inr ⟨by rfl, rfl⟩) (HS.out) ?_
          try simp only [Act.put, List.getElem_toArray, List.getElem_cons_zero, List.getElem_cons_succ, List.setIfInBounds_toArray, List.set_cons_zero, List.set_cons_succ]
          refine wpAnyH_take (i := 27) (v := undef) rfl (by kernel_rfl) (by kernel_rfl) (by kernel_rfl) (fun ch _ _ h => hQ ch _ _ _ _ h) (Or.inr ⟨by rfl, rfl⟩) (HS.out) ?_
          try simp only [Act.put, List.getElem_toArray, List.getElem_cons_zero, List.getElem_cons_succ, List.setIfInBounds_toArray, List.set_cons_zero, List.set_cons_succ]
          refine wpAnyH_take (i := 28) (v := undef) rfl (by kernel_rfl) (by kernel_rfl) (by kernel_rfl) (fun ch _ _ h => hQ ch _ _ _ _ h) (Or.inr ⟨by rfl, rfl⟩) (HS.out) ?_
          try simp only [Act.put, List.getElem_toArray, List.getElem_cons_zero, List.getElem_cons_succ, List.setIfInBounds_toArray, List.set_cons_zero, List.set_cons_succ]
          refine wpAnyH_take (i := 29) (v := undef) rfl (by kernel_rfl) (by kernel_rfl) (by kernel_rfl) (fun ch _ _ h => hQ ch _ _ _ _ h) (Or.inr ⟨by rfl, rfl⟩) (HS.out) ?_
          try simp only [Act.put, List.getElem_toArray, List.getElem_cons_zero, List.getElem_cons_succ, List.setIfInBounds_toArray, List.set_cons_zero, List.set_cons_succ]
          refine wpAnyH_take (i := 30) (v := undef) rfl (by kernel_rfl) (by kernel_rfl) (by kernel_rfl) (fun ch _ _ h => hQ ch _ _ _ _ h) (Or.inr ⟨by rfl, rfl⟩) (HS.out) ?_
          try simp only [Act.put, List.getElem_toArray, List.getElem_cons_zero, List.getElem_cons_succ, List.setIfInBounds_toArray, List.set_cons_zero, List.set_cons_succ]
          refine wpAnyH_take (i := 31) (v := undef) rfl (by kernel_rfl) (by kernel_rfl) (by kernel_rfl) (fun ch _ _ h => hQ ch _ _ _ _ h) (Or.inr ⟨by rfl, rfl⟩) (HS.out) ?_
          try simp only [Act.put, List.getElem_toArray, List.getElem_cons_zero, List.getElem_cons_succ, List.setIfInBounds_toArray, List.set_cons_zero, List.set_cons_succ]
          refine wpAnyH_take (i := 32) (v := undef) rfl (by kernel_rfl) (by kernel_rfl) (by kernel_rfl) (fun ch _ _ h => hQ ch _ _ _ _ h) (Or.inr ⟨by rfl, rfl⟩) (HS.out) ?_
          try simp only [Act.put, List.getElem_toArray, List.getElem_cons_zero, List.getElem_cons_succ, List.setIfInBounds_toArray, List.set_cons_zero, List.set_cons_succ]
          refine wpAnyH_take (i := 33) (v := undef) rfl (by kernel_rfl) (by kernel_rfl) (by kernel_rfl) (fun ch _ _ h => hQ ch _ _ _ _ h) (Or.inr ⟨by rfl, rfl⟩) (HS.out) ?_
          try simp only [Act.put, List.getElem_toArray, List.getElem_cons_zero, List.getElem_cons_succ, List.setIfInBounds_toArray, List.set_cons_zero, List.set_cons_succ]
          refine wpAnyH_take (i := 34) (v := ?_) rfl (by kernel_rfl) (by kernel_rfl) (by kernel_rfl) (fun ch _ _ h => hQ ch _ _ _ _ h) (Or.inl ⟨by rfl, ?_⟩) (HS.out) ?_
          rotate_left
          · intro w8 hw8; obtain ⟨k0, k1, k2, k3⟩ := hw8; go_simp; with_reducible rfl
          try simp only [Act.put, List.getElem_toArray, List.getElem_cons_zero, List.getElem_cons_succ, List.setIfInBounds_toArray, List.set_cons_zero, List.set_cons_succ]
          refine wpAnyH_take (i := 35) (v := ?_) rfl (by kernel_rfl) (by kernel_rfl) (by kernel_rfl) (fun ch _ _ h => hQ ch _ _ _ _ h) (Or.inl ⟨by rfl, ?_⟩) (HS.out) ?_
          rotate_left
          · intro w8 hw8; obtain ⟨k0, k1, k2, k3⟩ := hw8; go_simp; with_reducible rfl
          try simp only [Act.put, List.getElem_toArray, List.getElem_cons_zero, List.getElem_cons_succ, List.setIfInBounds_toArray, List.set_cons_zero, List.set_cons_succ]
          refine wpAnyH_take (i := 36) (v := ?_) rfl (by kernel_rfl) (by kernel_rfl) (by kernel_rfl) (fun ch _ _ h => hQ ch _ _ _ _ h) (Or.inl ⟨by rfl, ?_⟩) (HS.out) ?_
          rotate_left
          · intro w8 hw8; obtain ⟨k0, k1, k2, k3⟩ := hw8; go_simp; with_reducible rfl
          try simp only [Act.put, List.getElem_toArray, List.getElem_cons_zero, List.getElem_cons_succ, List.setIfInBounds_toArray, List.set_cons_zero, List.set_cons_succ]
          refine wpAnyH_done (by kernel_rfl) ?_ _
          go_wp2
          exact ⟨⟨k + 1, HLT.out, by simp, by rw [HST.out, HH.out]; rfl, Lib.hid (below_drewN HBF.out 1)⟩, by have := HLT.out; simp [intOf]; omega⟩
        · have b1 : (x.kind == 1) = false := beq_false_of_ne hk1
          obtain ⟨e5, _⟩ := ix_is x.n 5 (by omega) (by omega)
          rw [show ((5 : Nat) : Int) = 5 from rfl] at e5
          have e5x := e5
          rw [← IntWalk.i64_left] at e5x
          have HNK := Lib.hid hk1
          have HX5 : Hid (Dk.hit now i x = ((ix 5 x.n == i) && decide (x.l ≤ 32) && (now == padB x.bs))) := Lib.hid (by unfold Dk.hit; rw [b1]; rfl)
          generalize ix 5 x.n = j5 at e5 e5x HX5
          by_cases hji : j5 = i
          · subst hji
            by_cases hl : x.l ≤ 32
            · have i2 : ((x.l : Nat) : Int) ≤ 32 := by omega
              have w3 : wrap64 (32 - ((x.l : Nat) : Int)) = ((32 - x.l : Nat) : Int) := by rw [IntWalk.wrap64_in _ (by omega)]; omega
              have w3x := w3
              rw [← IntWalk.i64_left] at w3x
              have HL32 : Hid (x.bs.length ≤ 32) := Lib.hid (by rw [HOK.out.len]; exact hl)
              have HLEN := Lib.hid HOK.out.len
              have HE2 : Hid ((wz.drew.alloc (.cells #[] 5)).ownsRow wz.heap.size 5 1 (.slice (some ⟨wz.heap.size, 0, none⟩) 0 0) 0 (cellsB [])) := Lib.hid (World.ownsRow_made wz.drew #[] 0 (Nat.le_refl _) (Nat.zero_le _) (by simp))
              have HBZ : Hid (Below wz.heap.size wz (wz.drew.alloc (.cells #[] 5))) := Lib.hid ((below_drewN (Below.refl _ wz) 1).alloc (Nat.le_refl _) _)
              have HS2 := Lib.hid (HKS.out _ HBZ.out)
              have HR2 : Hid (Rd (wz.drew.alloc (.cells #[] 5)) (.slice x.A x.l x.c) x.bs) := Lib.hid ((HOK.out.rd.below HBW.out (Nat.le_refl _)).below HBZ.out (Nat.le_refl _))
              by_cases hp : now = padB x.bs
              · have HH : Hid (Dk.hit now j5 x = true) := Lib.hid (by rw [HX5.out, hp]; simp [hl])
                obtain ⟨TP, hTP⟩ : ∃ TP, TP = textOf now := ⟨_, rfl⟩
                have HTP : Hid (TP = textOf (padB x.bs)) := Lib.hid (by rw [hTP, hp])
                subst hTP
                clear hp hl hk1 HX5 HOK
                refine wp_region_held (S := (KS wr.heap.size x gn now)) (by kernel_rfl) ?_
                change wpAnyH _ _ _ _ _ _ _ _ wz.drew
                refine wpAnyH_take (i := 0) (v := ?_) rfl (by kernel_rfl) (by kernel_rfl) (by kernel_rfl) (fun ch _ _ h => hQ ch _ _ _ _ h) (Or.inl ⟨by rfl, ?_⟩) (HS.out) ?_
                rotate_left
                · intro w8 hw8; obtain ⟨k0, k1, k2, k3⟩ := hw8; go_simp; with_reducible rfl
                try simp only [Act.put, List.getElem_toArray, List.getElem_cons_zero, List.getElem_cons_succ, List.setIfInBounds_toArray, List.set_cons_zero, List.set_cons_succ]
                refine wpAnyH_take (i := 1) (v := ?_) rfl (by kernel_rfl) (by kernel_rfl) (by kernel_rfl) (fun ch _ _ h => hQ ch _ _ _ _ h) (Or.inl ⟨by rfl, ?_⟩) (HS.out) ?_
                rotate_left
                · intro w8 hw8; obtain ⟨k0, k1, k2, k3⟩ := hw8; go_simp; with_reducible rfl
                try simp only [Act.put, List.getElem_toArray, List.getElem_cons_zero, List.getElem_cons_succ, List.setIfInBounds_toArray, List.set_cons_zero, List.set_cons_succ]
                refine wpAnyH_take (i := 2) (v := ?_) rfl (by kernel_rfl) (by kernel_rfl) (by kernel_rfl) (fun ch _ _ h => hQ ch _ _ _ _ h) (Or.inl ⟨by rfl, ?_⟩) (HS.out) ?_
                rotate_left
                · intro w8 hw8; obtain ⟨k0, k1, k2, k3⟩ := hw8; go_simp; with_reducible rfl
                try simp only [Act.put, List.getElem_toArray, List.getElem_cons_zero, List.getElem_cons_succ, List.setIfInBounds_toArray, List.set_cons_zero, List.set_cons_succ]
                refine wpAnyH_take (i := 3) (v := ?_) rfl (by kernel_rfl) (by kernel_rfl) (by kernel_rfl) (fun ch _ _ h => hQ ch _ _ _ _ h) (Or.inl ⟨by rfl, ?_⟩) (HS.out) ?_
                rotate_left
                · intro w8 hw8; obtain ⟨k0, k1, k2, k3⟩ := hw8; go_simp; with_reducible rfl
                try simp only [Act.put, List.getElem_toArray, List.getElem_cons_zero, List.getElem_cons_succ, List.setIfInBounds_toArray, List.set_cons_zero, List.set_cons_succ]
                refine wpAnyH_take (i := 4) (v := .bool true) rfl (by kernel_rfl) (by kernel_rfl) (by kernel_rfl) (fun ch _ _ h => hQ ch _ _ _ _ h) (Or.inl ⟨by rfl, ?_⟩) (HS.out) ?_
                · intro w8 hw8; obtain ⟨k0, k1, k2, k3⟩ := hw8; go_simp; try simp [HNK.out]
                try simp only [Act.put, List.getElem_toArray, List.getElem_cons_zero, List.getElem_cons_succ, List.setIfInBounds_toArray, List.set_cons_zero, List.set_cons_succ]
                refine wpAnyH_take (i := 5) (v := ?_) rfl (by kernel_rfl) (by kernel_rfl) (by kernel_rfl) (fun ch _ _ h => hQ ch _ _ _ _ h) (Or.inl ⟨by rfl, ?_⟩) (HS.out) ?_
                rotate_left
                · intro w8 hw8; obtain ⟨k0, k1, k2, k3⟩ := hw8; go_simp; with_reducible rfl
                try simp only [Act.put, List.getElem_toArray, List.getElem_cons_zero, List.getElem_cons_succ, List.setIfInBounds_toArray, List.set_cons_zero, List.set_cons_succ]
                refine wpAnyH_take (i := 6) (v := ?_) rfl (by kernel_rfl) (by kernel_rfl) (by kernel_rfl) (fun ch _ _ h => hQ ch _ _ _ _ h) (Or.inl ⟨by rfl, ?_⟩) (HS.out) ?_
                rotate_left
                · intro w8 hw8; obtain ⟨k0, k1, k2, k3⟩ := hw8; go_simp; with_reducible rfl
                try simp only [Act.put, List.getElem_toArray, List.getElem_cons_zero, List.getElem_cons_succ, List.setIfInBounds_toArray, List.set_cons_zero, List.set_cons_succ]
                refine wpAnyH_take (i := 7) (v := ?_) rfl (by kernel_rfl) (by kernel_rfl) (by kernel_rfl) (fun ch _ _ h => hQ ch _ _ _ _ h) (Or.inl ⟨by rfl, ?_⟩) (HS.out) ?_
                rotate_left
                · intro w8 hw8; obtain ⟨k0, k1, k2, k3⟩ := hw8; go_simp; with_reducible rfl
                try simp only [Act.put, List.getElem_toArray, List.getElem_cons_zero, List.getElem_cons_succ, List.setIfInBounds_toArray, List.set_cons_zero, List.set_cons_succ]
                refine wpAnyH_take (i := 8) (v := ?_) rfl (by kernel_rfl) (by kernel_rfl) (by kernel_rfl) (fun ch _ _ h => hQ ch _ _ _ _ h) (Or.inl ⟨by rfl, ?_⟩) (HS.out) ?_
                rotate_left
                · intro w8 hw8; obtain ⟨k0, k1, k2, k3⟩ := hw8; go_simp; with_reducible rfl
                try simp only [Act.put, List.getElem_toArray, List.getElem_cons_zero, List.getElem_cons_succ, List.setIfInBounds_toArray, List.set_cons_zero, List.set_cons_succ]
                refine wpAnyH_take (i := 9) (v := ?_) rfl (by kernel_rfl) (by kernel_rfl) (by kernel_rfl) (fun ch _ _ h => hQ ch _ _ _ _ h) (Or.inl ⟨by rfl, ?_⟩) (HS.out) ?_
                rotate_left
                · intro w8 hw8; obtain ⟨k0, k1, k2, k3⟩ := hw8; go_simp; with_reducible rfl
                try simp only [Act.put, List.getElem_toArray, List.getElem_cons_zero, List.getElem_cons_succ, List.setIfInBounds_toArray, List.set_cons_zero, List.set_cons_succ]
                refine wpAnyH_take (i := 10) (v := ?_) rfl (by kernel_rfl) (by kernel_rfl) (by kernel_rfl) (fun ch _ _ h => hQ ch _ _ _ _ h) (Or.inl ⟨by rfl, ?_⟩) (HS.out) ?_
                rotate_left
                · intro w8 hw8; obtain ⟨k0, k1, k2, k3⟩ := hw8; go_simp; with_reducible rfl
                try simp only [Act.put, List.getElem_toArray, List.getElem_cons_zero, List.getElem_cons_succ, List.setIfInBounds_toArray, List.set_cons_zero, List.set_cons_succ]
                refine wpAnyH_take (i := 11) (v := ?_) rfl (by kernel_rfl) (by kernel_rfl) (by kernel_rfl) (fun ch _ _ h => hQ ch _ _ _ _ h) (Or.inl ⟨by rfl, ?_⟩) (HS.out) ?_
                rotate_left
                · intro w8 hw8; obtain ⟨k0, k1, k2, k3⟩ := hw8; go_simp; with_reducible rfl
                try simp only [Act.put, List.getElem_toArray, List.getElem_cons_zero, List.getElem_cons_succ, List.setIfInBounds_toArray, List.set_cons_zero, List.set_cons_succ]
                refine wpAnyH_take (i := 12) (v := .bool true) rfl (by kernel_rfl) (by kernel_rfl) (by kernel_rfl) (fun ch _ _ h => hQ ch _ _ _ _ h) (Or.inl ⟨by rfl, ?_⟩) (HS.out) ?_
                · intro w8 hw8; obtain ⟨k0, k1, k2, k3⟩ := hw8; go_simp; try simp [e5x]
                try simp only [Act.put, List.getElem_toArray, List.getElem_cons_zero, List.getElem_cons_succ, List.setIfInBounds_toArray, List.set_cons_zero, List.set_cons_succ]
                refine wpAnyH_take (i := 13) (v := ?_) rfl (by kernel_rfl) (by kernel_rfl) (by kernel_rfl) (fun ch _ _ h => hQ ch _ _ _ _ h) (Or.inl ⟨by rfl, ?_⟩) (HS.out) ?_
                rotate_left
                · intro w8 hw8; obtain ⟨k0, k1, k2, k3⟩ := hw8; go_simp; with_reducible rfl
                try simp only [Act.put, List.getElem_toArray, List.getElem_cons_zero, List.getElem_cons_succ, List.setIfInBounds_toArray, List.set_cons_zero, List.set_cons_succ]
                refine wpAnyH_take (i := 14) (v := ?_) rfl (by kernel_rfl) (by kernel_rfl) (by kernel_rfl) (fun ch _ _ h => hQ ch _ _ _ _ h) (Or.inl ⟨by rfl, ?_⟩) (HS.out) ?_
                rotate_left
                · intro w8 hw8; obtain ⟨k0, k1, k2, k3⟩ := hw8; go_simp; with_reducible rfl
                try simp only [Act.put, List.getElem_toArray, List.getElem_cons_zero, List.getElem_cons_succ, List.setIfInBounds_toArray, List.set_cons_zero, List.set_cons_succ]
                refine wpAnyH_take (i := 15) (v := ?_) rfl (by kernel_rfl) (by kernel_rfl) (by kernel_rfl) (fun ch _ _ h => hQ ch _ _ _ _ h) (Or.inl ⟨by rfl, ?_⟩) (HS.out) ?_
                rotate_left
                · intro w8 hw8; obtain ⟨k0, k1, k2, k3⟩ := hw8; go_simp; with_reducible rfl
                try simp only [Act.put, List.getElem_toArray, List.getElem_cons_zero, List.getElem_cons_succ, List.setIfInBounds_toArray, List.set_cons_zero, List.set_cons_succ]
                refine wpAnyH_take (i := 16) (v := ?_) rfl (by kernel_rfl) (by kernel_rfl) (by kernel_rfl) (fun ch _ _ h => hQ ch _ _ _ _ h) (Or.inl ⟨by rfl, ?_⟩) (HS.out) ?_
                rotate_left
                · intro w8 hw8; obtain ⟨k0, k1, k2, k3⟩ := hw8; go_simp; with_reducible rfl
                try simp only [Act.put, List.getElem_toArray, List.getElem_cons_zero, List.getElem_cons_succ, List.setIfInBounds_toArray, List.set_cons_zero, List.set_cons_succ]
                refine wpAnyH_take (i := 17) (v := ?_) rfl (by kernel_rfl) (by kernel_rfl) (by kernel_rfl) (fun ch _ _ h => hQ ch _ _ _ _ h) (Or.inl ⟨by rfl, ?_⟩) (HS.out) ?_
                rotate_left
                · intro w8 hw8; obtain ⟨k0, k1, k2, k3⟩ := hw8; go_simp; with_reducible rfl
                try simp only [Act.put, List.getElem_toArray, List.getElem_cons_zero, List.getElem_cons_succ, List.setIfInBounds_toArray, List.set_cons_zero, List.set_cons_succ]
                refine wpAnyH_take (i := 18) (v := .bool true) rfl (by kernel_rfl) (by kernel_rfl) (by kernel_rfl) (fun ch _ _ h => hQ ch _ _ _ _ h) (Or.inl ⟨by rfl, ?_⟩) (HS.out) ?_
                · intro w8 hw8; obtain ⟨k0, k1, k2, k3⟩ := hw8; go_simp; try simp [i2]
                try simp only [Act.put, List.getElem_toArray, List.getElem_cons_zero, List.getElem_cons_succ, List.setIfInBounds_toArray, List.set_cons_zero, List.set_cons_succ]
                refine wpAnyH_take (i := 19) (v := ?_) rfl (by kernel_rfl) (by kernel_rfl) (by kernel_rfl) (fun ch _ _ h => hQ ch _ _ _ _ h) (Or.inl ⟨by rfl, ?_⟩) (HS.out) ?_
                rotate_left
                · intro w8 hw8; obtain ⟨k0, k1, k2, k3⟩ := hw8; go_simp; with_reducible rfl
                try simp only [Act.put, List.getElem_toArray, List.getElem_cons_zero, List.getElem_cons_succ, List.setIfInBounds_toArray, List.set_cons_zero, List.set_cons_succ]
                refine wpAnyH_take (i := 20) (v := ?_) rfl (by kernel_rfl) (by kernel_rfl) (by kernel_rfl) (fun ch _ _ h => hQ ch _ _ _ _ h) (Or.inl ⟨by rfl, ?_⟩) (HS.out) ?_
                rotate_left
                · intro w8 hw8; obtain ⟨k0, k1, k2, k3⟩ := hw8; go_simp; with_reducible rfl
                try simp only [Act.put, List.getElem_toArray, List.getElem_cons_zero, List.getElem_cons_succ, List.setIfInBounds_toArray, List.set_cons_zero, List.set_cons_succ]
                refine wpAnyH_take (i := 21) (v := ?_) rfl (by kernel_rfl) (by kernel_rfl) (by kernel_rfl) (fun ch _ _ h => hQ ch _ _ _ _ h) (Or.inl ⟨by rfl, ?_⟩) (HS.out) ?_
                rotate_left
                · intro w8 hw8; obtain ⟨k0, k1, k2, k3⟩ := hw8; go_simp; with_reducible rfl
                try simp only [Act.put, List.getElem_toArray, List.getElem_cons_zero, List.getElem_cons_succ, List.setIfInBounds_toArray, List.set_cons_zero, List.set_cons_succ]
                refine wpAnyH_take (i := 22) (v := ?_) rfl (by kernel_rfl) (by kernel_rfl) (by kernel_rfl) (fun ch _ _ h => hQ ch _ _ _ _ h) (Or.inl ⟨by rfl, ?_⟩) (HS.out) ?_
                rotate_left
                · intro w8 hw8; obtain ⟨k0, k1, k2, k3⟩ := hw8; go_simp; with_reducible rfl
                try simp only [Act.put, List.getElem_toArray, List.getElem_cons_zero, List.getElem_cons_succ, List.setIfInBounds_toArray, List.set_cons_zero, List.set_cons_succ]
                refine wpAnyH_take (i := 24) (v := ?_) rfl (by kernel_rfl) (by kernel_rfl) (by kernel_rfl) (fun ch _ _ h => hQ ch _ _ _ _ h) (Or.inl ⟨by rfl, ?_⟩) (HS.out) ?_
                rotate_left
                · intro w8 hw8; obtain ⟨k0, k1, k2, k3⟩ := hw8; go_simp; with_reducible rfl
                try simp only [Act.put, List.getElem_toArray, List.getElem_cons_zero, List.getElem_cons_succ, List.setIfInBounds_toArray, List.set_cons_zero, List.set_cons_succ]
                refine wpAnyH_take (i := 25) (v := ?_) rfl (by kernel_rfl) (by kernel_rfl) (by kernel_rfl) (fun ch _ _ h => hQ ch _ _ _ _ h) (Or.inl ⟨by rfl, ?_⟩) (HS.out) ?_
                rotate_left
                · intro w8 hw8; obtain ⟨k0, k1, k2, k3⟩ := hw8; go_simp; with_reducible rfl
                try simp only [Act.put, List.getElem_toArray, List.getElem_cons_zero, List.getElem_cons_succ, List.setIfInBounds_toArray, List.set_cons_zero, List.set_cons_succ]
                refine wpAnyH_take (i := 27) (v := ?_) rfl (by kernel_rfl) (by kernel_rfl) (by kernel_rfl) (fun ch _ _ h => hQ ch _ _ _ _ h) (Or.inl ⟨by rfl, ?_⟩) (HS.out) ?_
                rotate_left
                · intro w8 hw8; obtain ⟨k0, k1, k2, k3⟩ := hw8; go_simp; with_reducible rfl
                try simp only [Act.put, List.getElem_toArray, List.getElem_cons_zero, List.getElem_cons_succ, List.setIfInBounds_toArray, List.set_cons_zero, List.set_cons_succ]
                refine wpAnyH_take (i := 28) (v := ?_) rfl (by kernel_rfl) (by kernel_rfl) (by kernel_rfl) (fun ch _ _ h => hQ ch _ _ _ _ h) (Or.inl ⟨by rfl, ?_⟩) (HS.out) ?_
                rotate_left
                · intro w8 hw8; obtain ⟨k0, k1, k2, k3⟩ := hw8; go_simp; with_reducible rfl
                try simp only [Act.put, List.getElem_toArray, List.getElem_cons_zero, List.getElem_cons_succ, List.setIfInBounds_toArray, List.set_cons_zero, List.set_cons_succ]
                refine wpAnyH_take (i := 29) (v := ?_) rfl (by kernel_rfl) (by kernel_rfl) (by kernel_rfl) (fun ch _ _ h => hQ ch _ _ _ _ h) (Or.inl ⟨by rfl, ?_⟩) (HS.out) ?_
                rotate_left
                · intro w8 hw8; obtain ⟨k0, k1, k2, k3⟩ := hw8; go_simp; with_reducible rfl
                try simp only [Act.put, List.getElem_toArray, List.getElem_cons_zero, List.getElem_cons_succ, List.setIfInBounds_toArray, List.set_cons_zero, List.set_cons_succ]
                refine wpAnyH_take (i := 30) (v := .int .i64 ((32 - x.l : Nat) : Int)) rfl (by kernel_rfl) (by kernel_rfl) (by kernel_rfl) (fun ch _ _ h => hQ ch _ _ _ _ h) (Or.inl ⟨by rfl, ?_⟩) (HS.out) ?_
                · intro w8 hw8; obtain ⟨k0, k1, k2, k3⟩ := hw8; go_simp; try simp [w3x]
                try simp only [Act.put, List.getElem_toArray, List.getElem_cons_zero, List.getElem_cons_succ, List.setIfInBounds_toArray, List.set_cons_zero, List.set_cons_succ]
                refine all_one (i := 23) (by kernel_rfl) rfl (by rfl) (fun K hK => ?_)
                go_simp
                refine hK _ _ HS2.out ?_; clear hK K
                try simp only [Act.put, List.getElem_toArray, List.getElem_cons_zero, List.getElem_cons_succ, List.setIfInBounds_toArray, List.set_cons_zero, List.set_cons_succ]
                refine all_one (i := 26) (by kernel_rfl) rfl (by rfl) (fun K hK => ?_)
                refine wp_appBytes (.tmp 156) (.tmp 158) rfl wz.heap.size (.slice (some ⟨wz.heap.size, 0, none⟩) 0 0) [] rfl HE2.out (Nat.le_of_lt (Blk.new wz.drew 5 #[]).lt) _ rfl x.bs HR2.out (by have := HL32.out; simp; omega) ?_
                intro v2 w2 ho2 hg2 hn2
                obtain ⟨A2, cc2, rfl⟩ := row_slice ho2
                have HO2 := Lib.hid ho2; have HN2 := Lib.hid (hn2 (by simp))
                have HB2 : Hid (Below wz.heap.size wz w2) := Lib.hid (below_of_only HBZ.out hg2 (Nat.le_refl _))
                clear ho2 hg2 hn2
                refine hK _ _ (HKS.out _ HB2.out) ?_; clear hK K
                try simp only [Act.put, List.getElem_toArray, List.getElem_cons_zero, List.getElem_cons_succ, List.setIfInBounds_toArray, List.set_cons_zero, List.set_cons_succ]
                refine all_one (i := 31) (by kernel_rfl) rfl (by rfl) (fun K hK => ?_)
                refine wp_appZeros (.tmp 159) (.tmp 163) rfl wz.heap.size (.slice A2 ([] ++ x.bs).length cc2) ([] ++ x.bs) rfl HO2.out HB2.out.size (32 - x.l) rfl (by have := HL32.out; have := HLEN.out; simp; omega) HN2.out ?_
                intro v3 w3 ho3 hg3
                have HB3 : Hid (Below wz.heap.size wz w3) := Lib.hid (below_own HB2.out HO2.out (Nat.le_refl _) hg3)
                have hq3 : (convert 32 9 v3).run Tryd.prog w3 = .ok (.string (textOf now)) w3 := by rw [HTP.out, show padB x.bs = ([] ++ x.bs) ++ List.replicate (32 - x.l) 0 by rw [padB, HLEN.out]; rfl]; exact conv_rd (rd_of_own ho3 rfl)
                clear ho3 hg3
                refine hK _ _ (HKS.out _ HB3.out) ?_; clear hK K
                try simp only [Act.put, List.getElem_toArray, List.getElem_cons_zero, List.getElem_cons_succ, List.setIfInBounds_toArray, List.set_cons_zero, List.set_cons_succ]
                refine all_one (i := 32) (by kernel_rfl) rfl (by rfl) (fun K hK => ?_)
                go_simp
                refine hK _ _ (HKS.out _ HB3.out) ?_; clear hK K
                try simp only [Act.put, List.getElem_toArray, List.getElem_cons_zero, List.getElem_cons_succ, List.setIfInBounds_toArray, List.set_cons_zero, List.set_cons_succ]
                refine wpAnyH_take (i := 33) (v := .bool true) rfl (by kernel_rfl) (by kernel_rfl) (by kernel_rfl) (fun ch _ _ h => hQ ch _ _ _ _ h) (Or.inl ⟨by rfl, ?_⟩) (HKS.out _ HB3.out) ?_
                · intro w8 hw8; obtain ⟨k0, k1, k2, k3⟩ := hw8; go_simp; try simp []
                try simp only [Act.put, List.getElem_toArray, List.getElem_cons_zero, List.getElem_cons_succ, List.setIfInBounds_toArray, List.set_cons_zero, List.set_cons_succ]
                refine wpAnyH_take (i := 34) (v := ?_) rfl (by kernel_rfl) (by kernel_rfl) (by kernel_rfl) (fun ch _ _ h => hQ ch _ _ _ _ h) (Or.inl ⟨by rfl, ?_⟩) (HKS.out _ HB3.out) ?_
                rotate_left
                · intro w8 hw8; obtain ⟨k0, k1, k2, k3⟩ := hw8; go_simp; with_reducible rfl
                try simp only [Act.put, List.getElem_toArray, List.getElem_cons_zero, List.getElem_cons_succ, List.setIfInBounds_toArray, List.set_cons_zero, List.set_cons_succ]
                refine wpAnyH_take (i := 35) (v := ?_) rfl (by kernel_rfl) (by kernel_rfl) (by kernel_rfl) (fun ch _ _ h => hQ ch _ _ _ _ h) (Or.inl ⟨by rfl, ?_⟩) (HKS.out _ HB3.out) ?_
                rotate_left
                · intro w8 hw8; obtain ⟨k0, k1, k2, k3⟩ := hw8; go_simp; with_reducible rfl
                try simp only [Act.put, List.getElem_toArray, List.getElem_cons_zero, List.getElem_cons_succ, List.setIfInBounds_toArray, List.set_cons_zero, List.set_cons_succ]
                refine wpAnyH_take (i := 36) (v := ?_) rfl (by kernel_rfl) (by kernel_rfl) (by kernel_rfl) (fun ch _ _ h => hQ ch _ _ _ _ h) (Or.inl ⟨by rfl, ?_⟩) (HKS.out _ HB3.out) ?_
                rotate_left
                · intro w8 hw8; obtain ⟨k0, k1, k2, k3⟩ := hw8; go_simp; with_reducible rfl
                try simp only [Act.put, List.getElem_toArray, List.getElem_cons_zero, List.getElem_cons_succ, List.setIfInBounds_toArray, List.set_cons_zero, List.set_cons_succ]
                refine wpAnyH_done (by kernel_rfl) ?_ _
                go_wp2
                exact ⟨⟨k + 1, HLT.out, by simp, by rw [HST.out, HH.out]; rfl, Lib.hid (HBF.out.trans (HB3.out.mono HBF.out.size))⟩, by have := HLT.out; simp [intOf]; omega⟩
              · have HH : Hid (Dk.hit now j5 x = false) := Lib.hid (by rw [HX5.out]; simp [hp])
                obtain ⟨TP, hTP⟩ : ∃ TP, TP = textOf (padB x.bs) := ⟨_, rfl⟩
                have HTP := Lib.hid hTP
                have b4 : ¬ (textOf now).toList = TP.toList := by rw [hTP]; exact textOf_ne_list HNB.out (padB_byte HOK.out.byte) hp
                clear hp hl hk1 HX5 HOK hTP
                refine wp_region_held (S := (KS wr.heap.size x gn now)) (by kernel_rfl) ?_
                change wpAnyH _ _ _ _ _ _ _ _ wz.drew
                refine wpAnyH_take (i := 0) (v := ?_) rfl (by kernel_rfl) (by kernel_rfl) (by kernel_rfl) (fun ch _ _ h => hQ ch _ _ _ _ h) (Or.inl ⟨by rfl, ?_⟩) (HS.out) ?_
                rotate_left
                · intro w8 hw8; obtain ⟨k0, k1, k2, k3⟩ := hw8; go_simp; with_reducible rfl
                try simp only [Act.put, List.getElem_toArray, List.getElem_cons_zero, List.getElem_cons_succ, List.setIfInBounds_toArray, List.set_cons_zero, List.set_cons_succ]
                refine wpAnyH_take (i := 1) (v := ?_) rfl (by kernel_rfl) (by kernel_rfl) (by kernel_rfl) (fun ch _ _ h => hQ ch _ _ _ _ h) (Or.inl ⟨by rfl, ?_⟩) (HS.out) ?_
                rotate_left
                · intro w8 hw8; obtain ⟨k0, k1, k2, k3⟩ := hw8; go_simp; with_reducible rfl
                try simp only [Act.put, List.getElem_toArray, List.getElem_cons_zero, List.getElem_cons_succ, List.setIfInBounds_toArray, List.set_cons_zero, List.set_cons_succ]
                refine wpAnyH_take (i := 2) (v := ?_) rfl (by kernel_rfl) (by kernel_rfl) (by kernel_rfl) (fun ch _ _ h => hQ ch _ _ _ _ h) (Or.inl ⟨by rfl, ?_⟩) (HS.out) ?_
                rotate_left
                · intro w8 hw8; obtain ⟨k0, k1, k2, k3⟩ := hw8; go_simp; with_reducible rfl
                try simp only [Act.put, List.getElem_toArray, List.getElem_cons_zero, List.getElem_cons_succ, List.setIfInBounds_toArray, List.set_cons_zero, List.set_cons_succ]
                refine wpAnyH_take (i := 3) (v := ?_) rfl (by kernel_rfl) (by kernel_rfl) (by kernel_rfl) (fun ch _ _ h => hQ ch _ _ _ _ h) (Or.inl ⟨by rfl, ?_⟩) (HS.out) ?_
                rotate_left
                · intro w8 hw8; obtain ⟨k0, k1, k2, k3⟩ := hw8; go_simp; with_reducible rfl
                try simp only [Act.put, List.getElem_toArray, List.getElem_cons_zero, List.getElem_cons_succ, List.setIfInBounds_toArray, List.set_cons_zero, List.set_cons_succ]
                refine wpAnyH_take (i := 4) (v := .bool true) rfl (by kernel_rfl) (by kernel_rfl) (by kernel_rfl) (fun ch _ _ h => hQ ch _ _ _ _ h) (Or.inl ⟨by rfl, ?_⟩) (HS.out) ?_
                · intro w8 hw8; obtain ⟨k0, k1, k2, k3⟩ := hw8; go_simp; try simp [HNK.out]
                try simp only [Act.put, List.getElem_toArray, List.getElem_cons_zero, List.getElem_cons_succ, List.setIfInBounds_toArray, List.set_cons_zero, List.set_cons_succ]
                refine wpAnyH_take (i := 5) (v := ?_) rfl (by kernel_rfl) (by kernel_rfl) (by kernel_rfl) (fun ch _ _ h => hQ ch _ _ _ _ h) (Or.inl ⟨by rfl, ?_⟩) (HS.out) ?_
                rotate_left
                · intro w8 hw8; obtain ⟨k0, k1, k2, k3⟩ := hw8; go_simp; with_reducible rfl
                try simp only [Act.put, List.getElem_toArray, List.getElem_cons_zero, List.getElem_cons_succ, List.setIfInBounds_toArray, List.set_cons_zero, List.set_cons_succ]
                refine wpAnyH_take (i := 6) (v := ?_) rfl (by kernel_rfl) (by kernel_rfl) (by kernel_rfl) (fun ch _ _ h => hQ ch _ _ _ _ h) (Or.inl ⟨by rfl, ?_⟩) (HS.out) ?_
                rotate_left
                · intro w8 hw8; obtain ⟨k0, k1, k2, k3⟩ := hw8; go_simp; with_reducible rfl
                try simp only [Act.put, List.getElem_toArray, List.getElem_cons_zero, List.getElem_cons_succ, List.setIfInBounds_toArray, List.set_cons_zero, List.set_cons_succ]
                refine wpAnyH_take (i := 7) (v := ?_) rfl (by kernel_rfl) (by kernel_rfl) (by kernel_rfl) (fun ch _ _ h => hQ ch _ _ _ _ h) (Or.inl ⟨by rfl, ?_⟩) (HS.out) ?_
                rotate_left
                · intro w8 hw8; obtain ⟨k0, k1, k2, k3⟩ := hw8; go_simp; with_reducible rfl
                try simp only [Act.put, List.getElem_toArray, List.getElem_cons_zero, List.getElem_cons_succ, List.setIfInBounds_toArray, List.set_cons_zero, List.set_cons_succ]
                refine wpAnyH_take (i := 8) (v := ?_) rfl (by kernel_rfl) (by kernel_rfl) (by kernel_rfl) (fun ch _ _ h => hQ ch _ _ _ _ h) (Or.inl ⟨by rfl, ?_⟩) (HS.out) ?_
                rotate_left
                · intro w8 hw8; obtain ⟨k0, k1, k2, k3⟩ := hw8; go_simp; with_reducible rfl
                try simp only [Act.put, List.getElem_toArray, List.getElem_cons_zero, List.getElem_cons_succ, List.setIfInBounds_toArray, List.set_cons_zero, List.set_cons_succ]
                refine wpAnyH_take (i := 9) (v := ?_) rfl (by kernel_rfl) (by kernel_rfl) (by kernel_rfl) (fun ch _ _ h => hQ ch _ _ _ _ h) (Or.inl ⟨by rfl, ?_⟩) (HS.out) ?_
                rotate_left
                · intro w8 hw8; obtain ⟨k0, k1, k2, k3⟩ := hw8; go_simp; with_reducible rfl
                try simp only [Act.put, List.getElem_toArray, List.getElem_cons_zero, List.getElem_cons_succ, List.setIfInBounds_toArray, List.set_cons_zero, List.set_cons_succ]
                refine wpAnyH_take (i := 10) (v := ?_) rfl (by kernel_rfl) (by kernel_rfl) (by kernel_rfl) (fun ch _ _ h => hQ ch _ _ _ _ h) (Or.inl ⟨by rfl, ?_⟩) (HS.out) ?_
                rotate_left
                · intro w8 hw8; obtain ⟨k0, k1, k2, k3⟩ := hw8; go_simp; with_reducible rfl
                try simp only [Act.put, List.getElem_toArray, List.getElem_cons_zero, List.getElem_cons_succ, List.setIfInBounds_toArray, List.set_cons_zero, List.set_cons_succ]
                refine wpAnyH_take (i := 11) (v := ?_) rfl (by kernel_rfl) (by kernel_rfl) (by kernel_rfl) (fun ch _ _ h => hQ ch _ _ _ _ h) (Or.inl ⟨by rfl, ?_⟩) (HS.out) ?_
                rotate_left
                · intro w8 hw8; obtain ⟨k0, k1, k2, k3⟩ := hw8; go_simp; with_reducible rfl
                try simp only [Act.put, List.getElem_toArray, List.getElem_cons_zero, List.getElem_cons_succ, List.setIfInBounds_toArray, List.set_cons_zero, List.set_cons_succ]
                refine wpAnyH_take (i := 12) (v := .bool true) rfl (by kernel_rfl) (by kernel_rfl) (by kernel_rfl) (fun ch _ _ h => hQ ch _ _ _ _ h) (Or.inl ⟨by rfl, ?_⟩) (HS.out) ?_
                · intro w8 hw8; obtain ⟨k0, k1, k2, k3⟩ := hw8; go_simp; try simp [e5x]
                try simp only [Act.put, List.getElem_toArray, List.getElem_cons_zero, List.getElem_cons_succ, List.setIfInBounds_toArray, List.set_cons_zero, List.set_cons_succ]
                refine wpAnyH_take (i := 13) (v := ?_) rfl (by kernel_rfl) (by kernel_rfl) (by kernel_rfl) (fun ch _ _ h => hQ ch _ _ _ _ h) (Or.inl ⟨by rfl, ?_⟩) (HS.out) ?_
                rotate_left
                · intro w8 hw8; obtain ⟨k0, k1, k2, k3⟩ := hw8; go_simp; with_reducible rfl
                try simp only [Act.put, List.getElem_toArray, List.getElem_cons_zero, List.getElem_cons_succ, List.setIfInBounds_toArray, List.set_cons_zero, List.set_cons_succ]
                refine wpAnyH_take (i := 14) (v := ?_) rfl (by kernel_rfl) (by kernel_rfl) (by kernel_rfl) (fun ch _ _ h => hQ ch _ _ _ _ h) (Or.inl ⟨by rfl, ?_⟩) (HS.out) ?_
                rotate_left
                · intro w8 hw8; obtain ⟨k0, k1, k2, k3⟩ := hw8; go_simp; with_reducible rfl
                try simp only [Act.put, List.getElem_toArray, List.getElem_cons_zero, List.getElem_cons_succ, List.setIfInBounds_toArray, List.set_cons_zero, List.set_cons_succ]
                refine wpAnyH_take (i := 15) (v := ?_) rfl (by kernel_rfl) (by kernel_rfl) (by kernel_rfl) (fun ch _ _ h => hQ ch _ _ _ _ h) (Or.inl ⟨by rfl, ?_⟩) (HS.out) ?_
                rotate_left
                · intro w8 hw8; obtain ⟨k0, k1, k2, k3⟩ := hw8; go_simp; with_reducible rfl
                try simp only [Act.put, List.getElem_toArray, List.getElem_cons_zero, List.getElem_cons_succ, List.setIfInBounds_toArray, List.set_cons_zero, List.set_cons_succ]
                refine wpAnyH_take (i := 16) (v := ?_) rfl (by kernel_rfl) (by kernel_rfl) (by kernel_rfl) (fun ch _ _ h => hQ ch _ _ _ _ h) (Or.inl ⟨by rfl, ?_⟩) (HS.out) ?_
                rotate_left
                · intro w8 hw8; obtain ⟨k0, k1, k2, k3⟩ := hw8; go_simp; with_reducible rfl
                try simp only [Act.put, List.getElem_toArray, List.getElem_cons_zero, List.getElem_cons_succ, List.setIfInBounds_toArray, List.set_cons_zero, List.set_cons_succ]
                refine wpAnyH_take (i := 17) (v := ?_) rfl (by kernel_rfl) (by kernel_rfl) (by kernel_rfl) (fun ch _ _ h => hQ ch _ _ _ _ h) (Or.inl ⟨by rfl, ?_⟩) (HS.out) ?_
                rotate_left
                · intro w8 hw8; obtain ⟨k0, k1, k2, k3⟩ := hw8; go_simp; with_reducible rfl
                try simp only [Act.put, List.getElem_toArray, List.getElem_cons_zero, List.getElem_cons_succ, List.setIfInBounds_toArray, List.set_cons_zero, List.set_cons_succ]
                refine wpAnyH_take (i := 18) (v := .bool true) rfl (by kernel_rfl) (by kernel_rfl) (by kernel_rfl) (fun ch _ _ h => hQ ch _ _ _ _ h) (Or.inl ⟨by rfl, ?_⟩) (HS.out) ?_
                · intro w8 hw8; obtain ⟨k0, k1, k2, k3⟩ := hw8; go_simp; try simp [i2]
                try simp only [Act.put, List.getElem_toArray, List.getElem_cons_zero, List.getElem_cons_succ, List.setIfInBounds_toArray, List.set_cons_zero, List.set_cons_succ]
                refine wpAnyH_take (i := 19) (v := ?_) rfl (by kernel_rfl) (by kernel_rfl) (by kernel_rfl) (fun ch _ _ h => hQ ch _ _ _ _ h) (Or.inl ⟨by rfl, ?_⟩) (HS.out) ?_
                rotate_left
                · intro w8 hw8; obtain ⟨k0, k1, k2, k3⟩ := hw8; go_simp; with_reducible rfl
                try simp only [Act.put, List.getElem_toArray, List.getElem_cons_zero, List.getElem_cons_succ, List.setIfInBounds_toArray, List.set_cons_zero, List.set_cons_succ]
                refine wpAnyH_take (i := 20) (v := ?_) rfl (by kernel_rfl) (by kernel_rfl) (by kernel_rfl) (fun ch _ _ h => hQ ch _ _ _ _ h) (Or.inl ⟨by rfl, ?_⟩) (HS.out) ?_
                rotate_left
                · intro w8 hw8; obtain ⟨k0, k1, k2, k3⟩ := hw8; go_simp; with_reducible rfl
                try simp only [Act.put, List.getElem_toArray, List.getElem_cons_zero, List.getElem_cons_succ, List.setIfInBounds_toArray, List.set_cons_zero, List.set_cons_succ]
                refine wpAnyH_take (i := 21) (v := ?_) rfl (by kernel_rfl) (by kernel_rfl) (by kernel_rfl) (fun ch _ _ h => hQ ch _ _ _ _ h) (Or.inl ⟨by rfl, ?_⟩) (HS.out) ?_
                rotate_left
                · intro w8 hw8; obtain ⟨k0, k1, k2, k3⟩ := hw8; go_simp; with_reducible rfl
                try simp only [Act.put, List.getElem_toArray, List.getElem_cons_zero, List.getElem_cons_succ, List.setIfInBounds_toArray, List.set_cons_zero, List.set_cons_succ]
                refine wpAnyH_take (i := 22) (v := ?_) rfl (by kernel_rfl) (by kernel_rfl) (by kernel_rfl) (fun ch _ _ h => hQ ch _ _ _ _ h) (Or.inl ⟨by rfl, ?_⟩) (HS.out) ?_
                rotate_left
                · intro w8 hw8; obtain ⟨k0, k1, k2, k3⟩ := hw8; go_simp; with_reducible rfl
                try simp only [Act.put, List.getElem_toArray, List.getElem_cons_zero, List.getElem_cons_succ, List.setIfInBounds_toArray, List.set_cons_zero, List.set_cons_succ]
                refine wpAnyH_take (i := 24) (v := ?_) rfl (by kernel_rfl) (by kernel_rfl) (by kernel_rfl) (fun ch _ _ h => hQ ch _ _ _ _ h) (Or.inl ⟨by rfl, ?_⟩) (HS.out) ?_
                rotate_left
                · intro w8 hw8; obtain ⟨k0, k1, k2, k3⟩ := hw8; go_simp; with_reducible rfl
                try simp only [Act.put, List.getElem_toArray, List.getElem_cons_zero, List.getElem_cons_succ, List.setIfInBounds_toArray, List.set_cons_zero, List.set_cons_succ]
                refine wpAnyH_take (i := 25) (v := ?_) rfl (by kernel_rfl) (by kernel_rfl) (by kernel_rfl) (fun ch _ _ h => hQ ch _ _ _ _ h) (Or.inl ⟨by rfl, ?_⟩) (HS.out) ?_
                rotate_left
                · intro w8 hw8; obtain ⟨k0, k1, k2, k3⟩ := hw8; go_simp; with_reducible rfl
                try simp only [Act.put, List.getElem_toArray, List.getElem_cons_zero, List.getElem_cons_succ, List.setIfInBounds_toArray, List.set_cons_zero, List.set_cons_succ]
                refine wpAnyH_take (i := 27) (v := ?_) rfl (by kernel_rfl) (by kernel_rfl) (by kernel_rfl) (fun ch _ _ h => hQ ch _ _ _ _ h) (Or.inl ⟨by rfl, ?_⟩) (HS.out) ?_
                rotate_left
                · intro w8 hw8; obtain ⟨k0, k1, k2, k3⟩ := hw8; go_simp; with_reducible rfl
                try simp only [Act.put, List.getElem_toArray, List.getElem_cons_zero, List.getElem_cons_succ, List.setIfInBounds_toArray, List.set_cons_zero, List.set_cons_succ]
                refine wpAnyH_take (i := 28) (v := ?_) rfl (by kernel_rfl) (by kernel_rfl) (by kernel_rfl) (fun ch _ _ h => hQ ch _ _ _ _ h) (Or.inl ⟨by rfl, ?_⟩) (HS.out) ?_
                rotate_left
                · intro w8 hw8; obtain ⟨k0, k1, k2, k3⟩ := hw8; go_simp; with_reducible rfl
                try simp only [Act.put, List.getElem_toArray, List.getElem_cons_zero, List.getElem_cons_succ, List.setIfInBounds_toArray, List.set_cons_zero, List.set_cons_succ]
                refine wpAnyH_take (i := 29) (v := ?_) rfl (by kernel_rfl) (by kernel_rfl) (by kernel_rfl) (fun ch _ _ h => hQ ch _ _ _ _ h) (Or.inl ⟨by rfl, ?_⟩) (HS.out) ?_
                rotate_left
                · intro w8 hw8; obtain ⟨k0, k1, k2, k3⟩ := hw8; go_simp; with_reducible rfl
                try simp only [Act.put, List.getElem_toArray, List.getElem_cons_zero, List.getElem_cons_succ, List.setIfInBounds_toArray, List.set_cons_zero, List.set_cons_succ]
                refine wpAnyH_take (i := 30) (v := .int .i64 ((32 - x.l : Nat) : Int)) rfl (by kernel_rfl) (by kernel_rfl) (by kernel_rfl) (fun ch _ _ h => hQ ch _ _ _ _ h) (Or.inl ⟨by rfl, ?_⟩) (HS.out) ?_
                · intro w8 hw8; obtain ⟨k0, k1, k2, k3⟩ := hw8; go_simp; try simp [w3x]
                try simp only [Act.put, List.getElem_toArray, List.getElem_cons_zero, List.getElem_cons_succ, List.setIfInBounds_toArray, List.set_cons_zero, List.set_cons_succ]
                refine all_one (i := 23) (by kernel_rfl) rfl (by rfl) (fun K hK => ?_)
                go_simp
                refine hK _ _ HS2.out ?_; clear hK K
                try simp only [Act.put, List.getElem_toArray, List.getElem_cons_zero, List.getElem_cons_succ, List.setIfInBounds_toArray, List.set_cons_zero, List.set_cons_succ]
                refine all_one (i := 26) (by kernel_rfl) rfl (by rfl) (fun K hK => ?_)
                refine wp_appBytes (.tmp 156) (.tmp 158) rfl wz.heap.size (.slice (some ⟨wz.heap.size, 0, none⟩) 0 0) [] rfl HE2.out (Nat.le_of_lt (Blk.new wz.drew 5 #[]).lt) _ rfl x.bs HR2.out (by have := HL32.out; simp; omega) ?_
                intro v2 w2 ho2 hg2 hn2
                obtain ⟨A2, cc2, rfl⟩ := row_slice ho2
                have HO2 := Lib.hid ho2; have HN2 := Lib.hid (hn2 (by simp))
                have HB2 : Hid (Below wz.heap.size wz w2) := Lib.hid (below_of_only HBZ.out hg2 (Nat.le_refl _))
                clear ho2 hg2 hn2
                refine hK _ _ (HKS.out _ HB2.out) ?_; clear hK K
                try simp only [Act.put, List.getElem_toArray, List.getElem_cons_zero, List.getElem_cons_succ, List.setIfInBounds_toArray, List.set_cons_zero, List.set_cons_succ]
                refine all_one (i := 31) (by kernel_rfl) rfl (by rfl) (fun K hK => ?_)
                refine wp_appZeros (.tmp 159) (.tmp 163) rfl wz.heap.size (.slice A2 ([] ++ x.bs).length cc2) ([] ++ x.bs) rfl HO2.out HB2.out.size (32 - x.l) rfl (by have := HL32.out; have := HLEN.out; simp; omega) HN2.out ?_
                intro v3 w3 ho3 hg3
                have HB3 : Hid (Below wz.heap.size wz w3) := Lib.hid (below_own HB2.out HO2.out (Nat.le_refl _) hg3)
                have hq3 : (convert 32 9 v3).run Tryd.prog w3 = .ok (.string TP) w3 := by rw [HTP.out, show padB x.bs = ([] ++ x.bs) ++ List.replicate (32 - x.l) 0 by rw [padB, HLEN.out]; rfl]; exact conv_rd (rd_of_own ho3 rfl)
                clear ho3 hg3
                refine hK _ _ (HKS.out _ HB3.out) ?_; clear hK K
                try simp only [Act.put, List.getElem_toArray, List.getElem_cons_zero, List.getElem_cons_succ, List.setIfInBounds_toArray, List.set_cons_zero, List.set_cons_succ]
                refine all_one (i := 32) (by kernel_rfl) rfl (by rfl) (fun K hK => ?_)
                go_simp
                refine hK _ _ (HKS.out _ HB3.out) ?_; clear hK K
                try simp only [Act.put, List.getElem_toArray, List.getElem_cons_zero, List.getElem_cons_succ, List.setIfInBounds_toArray, List.set_cons_zero, List.set_cons_succ]
                refine wpAnyH_take (i := 33) (v := .bool false) rfl (by kernel_rfl) (by kernel_rfl) (by kernel_rfl) (fun ch _ _ h => hQ ch _ _ _ _ h) (Or.inl ⟨by rfl, ?_⟩) (HKS.out _ HB3.out) ?_
                · intro w8 hw8; obtain ⟨k0, k1, k2, k3⟩ := hw8; go_simp; try simp [b4]
                try simp only [Act.put, List.getElem_toArray, List.getElem_cons_zero, List.getElem_cons_succ, List.setIfInBounds_toArray, List.set_cons_zero, List.set_cons_succ]
                refine wpAnyH_take (i := 34) (v := ?_) rfl (by kernel_rfl) (by kernel_rfl) (by kernel_rfl) (fun ch _ _ h => hQ ch _ _ _ _ h) (Or.inl ⟨by rfl, ?_⟩) (HKS.out _ HB3.out) ?_
                rotate_left
                · intro w8 hw8; obtain ⟨k0, k1, k2, k3⟩ := hw8; go_simp; with_reducible rfl
                try simp only [Act.put, List.getElem_toArray, List.getElem_cons_zero, List.getElem_cons_succ, List.setIfInBounds_toArray, List.set_cons_zero, List.set_cons_succ]
                refine wpAnyH_take (i := 35) (v := ?_) rfl (by kernel_rfl) (by kernel_rfl) (by kernel_rfl) (fun ch _ _ h => hQ ch _ _ _ _ h) (Or.inl ⟨by rfl, ?_⟩) (HKS.out _ HB3.out) ?_
                rotate_left
                · intro w8 hw8; obtain ⟨k0, k1, k2, k3⟩ := hw8; go_simp; with_reducible rfl
                try simp only [Act.put, List.getElem_toArray, List.getElem_cons_zero, List.getElem_cons_succ, List.setIfInBounds_toArray, List.set_cons_zero, List.set_cons_succ]
                refine wpAnyH_take (i := 36) (v := ?_) rfl (by kernel_rfl) (by kernel_rfl) (by kernel_rfl) (fun ch _ _ h => hQ ch _ _ _ _ h) (Or.inl ⟨by rfl, ?_⟩) (HKS.out _ HB3.out) ?_
                rotate_left
                · intro w8 hw8; obtain ⟨k0, k1, k2, k3⟩ := hw8; go_simp; with_reducible rfl
                try simp only [Act.put, List.getElem_toArray, List.getElem_cons_zero, List.getElem_cons_succ, List.setIfInBounds_toArray, List.set_cons_zero, List.set_cons_succ]
                refine wpAnyH_done (by kernel_rfl) ?_ _
                go_wp2
                exact ⟨⟨k + 1, HLT.out, by simp, by rw [HST.out, HH.out]; rfl, Lib.hid (HBF.out.trans (HB3.out.mono HBF.out.size))⟩, by have := HLT.out; simp [intOf]; omega⟩
            · have i2 : ¬ ((x.l : Nat) : Int) ≤ 32 := by omega
              have HH : Hid (Dk.hit now j5 x = false) := Lib.hid (by rw [HX5.out]; simp [hl])
              clear hl hk1 HX5 HOK
              refine wp_region_held (S := (KS wr.heap.size x gn now)) (by kernel_rfl) ?_
              change wpAnyH _ _ _ _ _ _ _ _ wz.drew
              refine wpAnyH_take (i := 0) (v := ?_) rfl (by kernel_rfl) (by kernel_rfl) (by kernel_rfl) (fun ch _ _ h => hQ ch _ _ _ _ h) (Or.inl ⟨by rfl, ?_⟩) (HS.out) ?_
              rotate_left
              · intro w8 hw8; obtain ⟨k0, k1, k2, k3⟩ := hw8; go_simp; with_reducible rfl
              try simp only [Act.put, List.getElem_toArray, List.getElem_cons_zero, List.getElem_cons_succ, List.setIfInBounds_toArray, List.set_cons_zero, List.set_cons_succ]
              refine wpAnyH_take (i := 1) (v := ?_) rfl (by kernel_rfl) (by kernel_rfl) (by kernel_rfl) (fun ch _ _ h => hQ ch _ _ _ _ h) (Or.inl ⟨by rfl, ?_⟩) (HS.out) ?_
              rotate_left
              · intro w8 hw8; obtain ⟨k0, k1, k2, k3⟩ := hw8; go_simp; with_reducible rfl
              try simp only [Act.put, List.getElem_toArray, List.getElem_cons_zero, List.getElem_cons_succ, List.setIfInBounds_toArray, List.set_cons_zero, List.set_cons_succ]
              refine wpAnyH_take (i := 2) (v := ?_) rfl (by kernel_rfl) (by kernel_rfl) (by kernel_rfl) (fun ch _ _ h => hQ ch _ _ _ _ h) (Or.inl ⟨by rfl, ?_⟩) (HS.out) ?_
              rotate_left
              · intro w8 hw8; obtain ⟨k0, k1, k2, k3⟩ := hw8; go_simp; with_reducible rfl
              try simp only [Act.put, List.getElem_toArray, List.getElem_cons_zero, List.getElem_cons_succ, List.setIfInBounds_toArray, List.set_cons_zero, List.set_cons_succ]
              refine wpAnyH_take (i := 3) (v := ?_) rfl (by kernel_rfl) (by kernel_rfl) (by kernel_rfl) (fun ch _ _ h => hQ ch _ _ _ _ h) (Or.inl ⟨by rfl, ?_⟩) (HS.out) ?_
              rotate_left
              · intro w8 hw8; obtain ⟨k0, k1, k2, k3⟩ := hw8; go_simp; with_reducible rfl
              try simp only [Act.put, List.getElem_toArray, List.getElem_cons_zero, List.getElem_cons_succ, List.setIfInBounds_toArray, List.set_cons_zero, List.set_cons_succ]
              refine wpAnyH_take (i := 4) (v := .bool true) rfl (by kernel_rfl) (by kernel_rfl) (by kernel_rfl) (fun ch _ _ h => hQ ch _ _ _ _ h) (Or.inl ⟨by rfl, ?_⟩) (HS.out) ?_
              · intro w8 hw8; obtain ⟨k0, k1, k2, k3⟩ := hw8; go_simp; try simp [HNK.out]
              try simp only [Act.put, List.getElem_toArray, List.getElem_cons_zero, List.getElem_cons_succ, List.setIfInBounds_toArray, List.set_cons_zero, List.set_cons_succ]
              refine wpAnyH_take (i := 5) (v := ?_) rfl (by kernel_rfl) (by kernel_rfl) (by kernel_rfl) (fun ch _ _ h => hQ ch _ _ _ _ h) (Or.inl ⟨by rfl, ?_⟩) (HS.out) ?_
              rotate_left
              · intro w8 hw8; obtain ⟨k0, k1, k2, k3⟩ := hw8; go_simp; with_reducible rfl
              try simp only [Act.put, List.getElem_toArray, List.getElem_cons_zero, List.getElem_cons_succ, List.setIfInBounds_toArray, List.set_cons_zero, List.set_cons_succ]
              refine wpAnyH_take (i := 6) (v := ?_) rfl (by kernel_rfl) (by kernel_rfl) (by kernel_rfl) (fun ch _ _ h => hQ ch _ _ _ _ h) (Or.inl ⟨by rfl, ?_⟩) (HS.out) ?_
              rotate_left
              · intro w8 hw8; obtain ⟨k0, k1, k2, k3⟩ := hw8; go_simp; with_reducible rfl
              try simp only [Act.put, List.getElem_toArray, List.getElem_cons_zero, List.getElem_cons_succ, List.setIfInBounds_toArray, List.set_cons_zero, List.set_cons_succ]
              refine wpAnyH_take (i := 7) (v := ?_) rfl (by kernel_rfl) (by kernel_rfl) (by kernel_rfl) (fun ch _ _ h => hQ ch _ _ _ _ h) (Or.inl ⟨by rfl, ?_⟩) (HS.out) ?_
              rotate_left
              · intro w8 hw8; obtain ⟨k0, k1, k2, k3⟩ := hw8; go_simp; with_reducible rfl
              try simp only [Act.put, List.getElem_toArray, List.getElem_cons_zero, List.getElem_cons_succ, List.setIfInBounds_toArray, List.set_cons_zero, List.set_cons_succ]
              refine wpAnyH_take (i := 8) (v := ?_) rfl (by kernel_rfl) (by kernel_rfl) (by kernel_rfl) (fun ch _ _ h => hQ ch _ _ _ _ h) (Or.inl ⟨by rfl, ?_⟩) (HS.out) ?_
              rotate_left
              · intro w8 hw8; obtain ⟨k0, k1, k2, k3⟩ := hw8; go_simp; with_reducible rfl
              try simp only [Act.put, List.getElem_toArray, List.getElem_cons_zero, List.getElem_cons_succ, List.setIfInBounds_toArray, List.set_cons_zero, List.set_cons_succ]
              refine wpAnyH_take (i := 9) (v := ?_) rfl (by kernel_rfl) (by kernel_rfl) (by kernel_rfl) (fun ch _ _ h => hQ ch _ _ _ _ h) (Or.inl ⟨by rfl, ?_⟩) (HS.out) ?_
              rotate_left
              · intro w8 hw8; obtain ⟨k0, k1, k2, k3⟩ := hw8; go_simp; with_reducible rfl
              try simp only [Act.put, List.getElem_toArray, List.getElem_cons_zero, List.getElem_cons_succ, List.setIfInBounds_toArray, List.set_cons_zero, List.set_cons_succ]
              refine wpAnyH_take (i := 10) (v := ?_) rfl (by kernel_rfl) (by kernel_rfl) (by kernel_rfl) (fun ch _ _ h => hQ ch _ _ _ _ h) (Or.inl ⟨by rfl, ?_⟩) (HS.out) ?_
              rotate_left
              · intro w8 hw8; obtain ⟨k0, k1, k2, k3⟩ := hw8; go_simp; with_reducible rfl
              try simp only [Act.put, List.getElem_toArray, List.getElem_cons_zero, List.getElem_cons_succ, List.setIfInBounds_toArray, List.set_cons_zero, List.set_cons_succ]
              refine wpAnyH_take (i := 11) (v := ?_) rfl (by kernel_rfl) (by kernel_rfl) (by kernel_rfl) (fun ch _ _ h => hQ ch _ _ _ _ h) (Or.inl ⟨by rfl, ?_⟩) (HS.out) ?_
              rotate_left
              · intro w8 hw8; obtain ⟨k0, k1, k2, k3⟩ := hw8; go_simp; with_reducible rfl
              try simp only [Act.put, List.getElem_toArray, List.getElem_cons_zero, List.getElem_cons_succ, List.setIfInBounds_toArray, List.set_cons_zero, List.set_cons_succ]
              refine wpAnyH_take (i := 12) (v := .bool true) rfl (by kernel_rfl) (by kernel_rfl) (by kernel_rfl) (fun ch _ _ h => hQ ch _ _ _ _ h) (Or.inl ⟨by rfl, ?_⟩) (HS.out) ?_
              · intro w8 hw8; obtain ⟨k0, k1, k2, k3⟩ := hw8; go_simp; try simp [e5x]
              try simp only [Act.put, List.getElem_toArray, List.getElem_cons_zero, List.getElem_cons_succ, List.setIfInBounds_toArray, List.set_cons_zero, List.set_cons_succ]
              refine wpAnyH_take (i := 13) (v := ?_) rfl (by kernel_rfl) (by kernel_rfl) (by kernel_rfl) (fun ch _ _ h => hQ ch _ _ _ _ h) (Or.inl ⟨by rfl, ?_⟩) (HS.out) ?_
              rotate_left
              · intro w8 hw8; obtain ⟨k0, k1, k2, k3⟩ := hw8; go_simp; with_reducible rfl
              try simp only [Act.put, List.getElem_toArray, List.getElem_cons_zero, List.getElem_cons_succ, List.setIfInBounds_toArray, List.set_cons_zero, List.set_cons_succ]
              refine wpAnyH_take (i := 14) (v := ?_) rfl (by kernel_rfl) (by kernel_rfl) (by kernel_rfl) (fun ch _ _ h => hQ ch _ _ _ _ h) (Or.inl ⟨by rfl, ?_⟩) (HS.out) ?_
              rotate_left
              · intro w8 hw8; obtain ⟨k0, k1, k2, k3⟩ := hw8; go_simp; with_reducible rfl
              try simp only [Act.put, List.getElem_toArray, List.getElem_cons_zero, List.getElem_cons_succ, List.setIfInBounds_toArray, List.set_cons_zero, List.set_cons_succ]
              refine wpAnyH_take (i := 15) (v := ?_) rfl (by kernel_rfl) (by kernel_rfl) (by kernel_rfl) (fun ch _ _ h => hQ ch _ _ _ _ h) (Or.inl ⟨by rfl, ?_⟩) (HS.out) ?_
              rotate_left
              · intro w8 hw8; obtain ⟨k0, k1, k2, k3⟩ := hw8; go_simp; with_reducible rfl
              try simp only [Act.put, List.getElem_toArray, List.getElem_cons_zero, List.getElem_cons_succ, List.setIfInBounds_toArray, List.set_cons_zero, List.set_cons_succ]
              refine wpAnyH_take (i := 16) (v := ?_) rfl (by kernel_rfl) (by kernel_rfl) (by kernel_rfl) (fun ch _ _ h => hQ ch _ _ _ _ h) (Or.inl ⟨by rfl, ?_⟩) (HS.out) ?_
              rotate_left
              · intro w8 hw8; obtain ⟨k0, k1, k2, k3⟩ := hw8; go_simp; with_reducible rfl
              try simp only [Act.put, List.getElem_toArray, List.getElem_cons_zero, List.getElem_cons_succ, List.setIfInBounds_toArray, List.set_cons_zero, List.set_cons_succ]
              refine wpAnyH_take (i := 17) (v := ?_) rfl (by kernel_rfl) (by kernel_rfl) (by kernel_rfl) (fun ch _ _ h => hQ ch _ _ _ _ h) (Or.inl ⟨by rfl, ?_⟩) (HS.out) ?_
              rotate_left
              · intro w8 hw8; obtain ⟨k0, k1, k2, k3⟩ := hw8; go_simp; with_reducible rfl
              try simp only [Act.put, List.getElem_toArray, List.getElem_cons_zero, List.getElem_cons_succ, List.setIfInBounds_toArray, List.set_cons_zero, List.set_cons_succ]
              refine wpAnyH_take (i := 18) (v := .bool false) rfl (by kernel_rfl) (by kernel_rfl) (by kernel_rfl) (fun ch _ _ h => hQ ch _ _ _ _ h) (Or.inl ⟨by rfl, ?_⟩) (HS.out) ?_
              · intro w8 hw8; obtain ⟨k0, k1, k2, k3⟩ := hw8; go_simp; try simp [i2]
              try simp only [Act.put, List.getElem_toArray, List.getElem_cons_zero, List.getElem_cons_succ, List.setIfInBounds_toArray, List.set_cons_zero, List.set_cons_succ]
              refine wpAnyH_take (i := 19) (v := ?_) rfl (by kernel_rfl) (by kernel_rfl) (by kernel_rfl) (fun ch _ _ h => hQ ch _ _ _ _ h) (Or.inl ⟨by rfl, ?_⟩) (HS.out) ?_
              rotate_left
              · intro w8 hw8; obtain ⟨k0, k1, k2, k3⟩ := hw8; go_simp; with_reducible rfl
              try simp only [Act.put, List.getElem_toArray, List.getElem_cons_zero, List.getElem_cons_succ, List.setIfInBounds_toArray, List.set_cons_zero, List.set_cons_succ]
              refine wpAnyH_take (i := 20) (v := ?_) rfl (by kernel_rfl) (by kernel_rfl) (by kernel_rfl) (fun ch _ _ h => hQ ch _ _ _ _ h) (Or.inl ⟨by rfl, ?_⟩) (HS.out) ?_
              rotate_left
              · intro w8 hw8; obtain ⟨k0, k1, k2, k3⟩ := hw8; go_simp; with_reducible rfl
              try simp only [Act.put, List.getElem_toArray, List.getElem_cons_zero, List.getElem_cons_succ, List.setIfInBounds_toArray, List.set_cons_zero, List.set_cons_succ]
              refine wpAnyH_take (i := 21) (v := undef) rfl (by kernel_rfl) (by kernel_rfl) (by kernel_rfl) (fun ch _ _ h => hQ ch _ _ _ _ h) (Or.inr ⟨by rfl, rfl⟩) (HS.out) ?_
              try simp only [Act.put, List.getElem_toArray, List.getElem_cons_zero, List.getElem_cons_succ, List.setIfInBounds_toArray, List.set_cons_zero, List.set_cons_succ]
              refine wpAnyH_take (i := 22) (v := undef) rfl (by kernel_rfl) (by kernel_rfl) (by kernel_rfl) (fun ch _ _ h => hQ ch _ _ _ _ h) (Or.inr ⟨by rfl, rfl⟩) (HS.out) ?_
              try simp only [Act.put, List.getElem_toArray, List.getElem_cons_zero, List.getElem_cons_succ, List.setIfInBounds_toArray, List.set_cons_zero, List.set_cons_succ]
              refine wpAnyH_take (i := 23) (v := undef) rfl (by kernel_rfl) (by kernel_rfl) (by kernel_rfl) (fun ch _ _ h => hQ ch _ _ _ _ h) (Or.inr ⟨by rfl, rfl⟩) (HS.out) ?_
              try simp only [Act.put, List.getElem_toArray, List.getElem_cons_zero, List.getElem_cons_succ, List.setIfInBounds_toArray, List.set_cons_zero, List.set_cons_succ]
              refine wpAnyH_take (i := 24) (v := undef) rfl (by kernel_rfl) (by kernel_rfl) (by kernel_rfl) (fun ch _ _ h => hQ ch _ _ _ _ h) (Or.inr ⟨by rfl, rfl⟩) (HS.out) ?_
              try simp only [Act.put, List.getElem_toArray, List.getElem_cons_zero, List.getElem_cons_succ, List.setIfInBounds_toArray, List.set_cons_zero, List.set_cons_succ]
              refine wpAnyH_take (i := 25) (v := undef) rfl (by kernel_rfl) (by kernel_rfl) (by kernel_rfl) (fun ch _ _ h => hQ ch _ _ _ _ h) (Or.inr ⟨by rfl, rfl⟩) (HS.out) ?_
              try simp only [Act.put, List.getElem_toArray, List.getElem_cons_zero, List.getElem_cons_succ, List.setIfInBounds_toArray, List.set_cons_zero, List.set_cons_succ]
              refine wpAnyH_take (i := 26) (v := undef) rfl (by kernel_rfl) (by kernel_rfl) (by kernel_rfl) (fun ch _ _ h => hQ ch _ _ _ _ h) (Or.inr ⟨by rfl, rfl⟩) (HS.out) ?_
              try simp only [Act.put, List.getElem_toArray, List.getElem_cons_zero, List.getElem_cons_succ, List.setIfInBounds_toArray, List.set_cons_zero, List.set_cons_succ]
              refine wpAnyH_take (i := 27) (v := undef) rfl (by kernel_rfl) (by kernel_rfl) (by kernel_rfl) (fun ch _ _ h => hQ ch _ _ _ _ h) (Or.inr ⟨by rfl, rfl⟩) (HS.out) ?_
              try simp only [Act.put, List.getElem_toArray, List.getElem_cons_zero, List.getElem_cons_succ, List.setIfInBounds_toArray, List.set_cons_zero, List.set_cons_succ]
              refine wpAnyH_take (i := 28) (v := undef) rfl (by kernel_rfl) (by kernel_rfl) (by kernel_rfl) (fun ch _ _ h => hQ ch _ _ _ _ h) (Or.inr ⟨by rfl, rfl⟩) (HS.out) ?_
              try simp only [Act.put, List.getElem_toArray, List.getElem_cons_zero, List.getElem_cons_succ, List.setIfInBounds_toArray, List.set_cons_zero, List.set_cons_succ]
              refine wpAnyH_take (i := 29) (v := undef) rfl (by kernel_rfl) (by kernel_rfl) (by kernel_rfl) (fun ch _ _ h => hQ ch _ _ _ _ h) (Or.inr ⟨by rfl, rfl⟩) (HS.out) ?_
              try simp only [Act.put, List.getElem_toArray, List.getElem_cons_zero, List.getElem_cons_succ, List.setIfInBounds_toArray, List.set_cons_zero, List.set_cons_succ]
              refine wpAnyH_take (i := 30) (v := undef) rfl (by kernel_rfl) (by kernel_rfl) (by kernel_rfl) (fun ch _ _ h => hQ ch _ _ _ _ h) (Or.inr ⟨by rfl, rfl⟩) (HS.out) ?_
              try simp only [Act.put, List.getElem_toArray, List.getElem_cons_zero, List.getElem_cons_succ, List.setIfInBounds_toArray, List.set_cons_zero, List.set_cons_succ]
              refine wpAnyH_take (i := 31) (v := undef) rfl (by kernel_rfl) (by kernel_rfl) (by kernel_rfl) (fun ch _ _ h => hQ ch _ _ _ _ h) (Or.inr ⟨by rfl, rfl⟩) (HS.out) ?_
              try simp only [Act.put, List.getElem_toArray, List.getElem_cons_zero, List.getElem_cons_succ, List.setIfInBounds_toArray, List.set_cons_zero, List.set_cons_succ]
              refine wpAnyH_take (i := 32) (v := undef) rfl (by kernel_rfl) (by kernel_rfl) (by kernel_rfl) (fun ch _ _ h => hQ ch _ _ _ _ h) (Or.inr ⟨by rfl, rfl⟩) (HS.out) ?_
              try simp only [Act.put, List.getElem_toArray, List.getElem_cons_zero, List.getElem_cons_succ, List.setIfInBounds_toArray, List.set_cons_zero, List.set_cons_succ]
              refine wpAnyH_take (i := 33) (v := undef) rfl (by kernel_rfl) (by kernel_rfl) (by kernel_rfl) (fun ch _ _ h => hQ ch _ _ _ _ h) (Or.inr ⟨by rfl, rfl⟩) (HS.out) ?_
              try simp only [Act.put, List.getElem_toArray, List.getElem_cons_zero, List.getElem_cons_succ, List.setIfInBounds_toArray, List.set_cons_zero, List.set_cons_succ]
              refine wpAnyH_take (i := 34) (v := ?_) rfl (by kernel_rfl) (by kernel_rfl) (by kernel_rfl) (fun ch _ _ h => hQ ch _ _ _ _ h) (Or.inl ⟨by rfl, ?_⟩) (HS.out) ?_
              rotate_left
              · intro w8 hw8; obtain ⟨k0, k1, k2, k3⟩ := hw8; go_simp; with_reducible rfl
              try simp only [Act.put, List.getElem_toArray, List.getElem_cons_zero, List.getElem_cons_succ, List.setIfInBounds_toArray, List.set_cons_zero, List.set_cons_succ]
              refine wpAnyH_take (i := 35) (v := ?_) rfl (by kernel_rfl) (by kernel_rfl) (by kernel_rfl) (fun ch _ _ h => hQ ch _ _ _ _ h) (Or.inl ⟨by rfl, ?_⟩) (HS.out) ?_
              rotate_left
              · intro w8 hw8; obtain ⟨k0, k1, k2, k3⟩ := hw8; go_simp; with_reducible rfl
              try simp only [Act.put, List.getElem_toArray, List.getElem_cons_zero, List.getElem_cons_succ, List.setIfInBounds_toArray, List.set_cons_zero, List.set_cons_succ]
              refine wpAnyH_take (i := 36) (v := ?_) rfl (by kernel_rfl) (by kernel_rfl) (by kernel_rfl) (fun ch _ _ h => hQ ch _ _ _ _ h) (Or.inl ⟨by rfl, ?_⟩) (HS.out) ?_
              rotate_left
              · intro w8 hw8; obtain ⟨k0, k1, k2, k3⟩ := hw8; go_simp; with_reducible rfl
              try simp only [Act.put, List.getElem_toArray, List.getElem_cons_zero, List.getElem_cons_succ, List.setIfInBounds_toArray, List.set_cons_zero, List.set_cons_succ]
              refine wpAnyH_done (by kernel_rfl) ?_ _
              go_wp2
              exact ⟨⟨k + 1, HLT.out, by simp, by rw [HST.out, HH.out]; rfl, Lib.hid (below_drewN HBF.out 1)⟩, by have := HLT.out; simp [intOf]; omega⟩
          · have b2 : (((j5 : Nat) : Int) == (i : Int)) = false := beq_false_of_ne (by omega)
            have HH : Hid (Dk.hit now i x = false) := Lib.hid (by rw [HX5.out]; simp [hji])
            clear hji hk1 HX5 HOK
            refine wp_region_held (S := (KS wr.heap.size x gn now)) (by kernel_rfl) ?_
            change wpAnyH _ _ _ _ _ _ _ _ wz.drew
            refine wpAnyH_take (i := 0) (v := ?_) rfl (by kernel_rfl) (by kernel_rfl) (by kernel_rfl) (fun ch _ _ h => hQ ch _ _ _ _ h) (Or.inl ⟨by rfl, ?_⟩) (HS.out) ?_
            rotate_left
            · intro w8 hw8; obtain ⟨k0, k1, k2, k3⟩ := hw8; go_simp; with_reducible rfl
            try simp only [Act.put, List.getElem_toArray, List.getElem_cons_zero, List.getElem_cons_succ, List.setIfInBounds_toArray, List.set_cons_zero, List.set_cons_succ]
            refine wpAnyH_take (i := 1) (v := ?_) rfl (by kernel_rfl) (by kernel_rfl) (by kernel_rfl) (fun ch _ _ h => hQ ch _ _ _ _ h) (Or.inl ⟨by rfl, ?_⟩) (HS.out) ?_
            rotate_left
            · intro w8 hw8; obtain ⟨k0, k1, k2, k3⟩ := hw8; go_simp; with_reducible rfl
            try simp only [Act.put, List.getElem_toArray, List.getElem_cons_zero, List.getElem_cons_succ, List.setIfInBounds_toArray, List.set_cons_zero, List.set_cons_succ]
            refine wpAnyH_take (i := 2) (v := ?_) rfl (by kernel_rfl) (by kernel_rfl) (by kernel_rfl) (fun ch _ _ h => hQ ch _ _ _ _ h) (Or.inl ⟨by rfl, ?_⟩) (HS.out) ?_
            rotate_left
            · intro w8 hw8; obtain ⟨k0, k1, k2, k3⟩ := hw8; go_simp; with_reducible rfl
            try simp only [Act.put, List.getElem_toArray, List.getElem_cons_zero, List.getElem_cons_succ, List.setIfInBounds_toArray, List.set_cons_zero, List.set_cons_succ]
            refine wpAnyH_take (i := 3) (v := ?_) rfl (by kernel_rfl) (by kernel_rfl) (by kernel_rfl) (fun ch _ _ h => hQ ch _ _ _ _ h) (Or.inl ⟨by rfl, ?_⟩) (HS.out) ?_
            rotate_left
            · intro w8 hw8; obtain ⟨k0, k1, k2, k3⟩ := hw8; go_simp; with_reducible rfl
            try simp only [Act.put, List.getElem_toArray, List.getElem_cons_zero, List.getElem_cons_succ, List.setIfInBounds_toArray, List.set_cons_zero, List.set_cons_succ]
            refine wpAnyH_take (i := 4) (v := .bool true) rfl (by kernel_rfl) (by kernel_rfl) (by kernel_rfl) (fun ch _ _ h => hQ ch _ _ _ _ h) (Or.inl ⟨by rfl, ?_⟩) (HS.out) ?_
            · intro w8 hw8; obtain ⟨k0, k1, k2, k3⟩ := hw8; go_simp; try simp [HNK.out]
            try simp only [Act.put, List.getElem_toArray, List.getElem_cons_zero, List.getElem_cons_succ, List.setIfInBounds_toArray, List.set_cons_zero, List.set_cons_succ]
            refine wpAnyH_take (i := 5) (v := ?_) rfl (by kernel_rfl) (by kernel_rfl) (by kernel_rfl) (fun ch _ _ h => hQ ch _ _ _ _ h) (Or.inl ⟨by rfl, ?_⟩) (HS.out) ?_
            rotate_left
            · intro w8 hw8; obtain ⟨k0, k1, k2, k3⟩ := hw8; go_simp; with_reducible rfl
            try simp only [Act.put, List.getElem_toArray, List.getElem_cons_zero, List.getElem_cons_succ, List.setIfInBounds_toArray, List.set_cons_zero, List.set_cons_succ]
            refine wpAnyH_take (i := 6) (v := ?_) rfl (by kernel_rfl) (by kernel_rfl) (by kernel_rfl) (fun ch _ _ h => hQ ch _ _ _ _ h) (Or.inl ⟨by rfl, ?_⟩) (HS.out) ?_
            rotate_left
            · intro w8 hw8; obtain ⟨k0, k1, k2, k3⟩ := hw8; go_simp; with_reducible rfl
            try simp only [Act.put, List.getElem_toArray, List.getElem_cons_zero, List.getElem_cons_succ, List.setIfInBounds_toArray, List.set_cons_zero, List.set_cons_succ]
            refine wpAnyH_take (i := 7) (v := ?_) rfl (by kernel_rfl) (by kernel_rfl) (by kernel_rfl) (fun ch _ _ h => hQ ch _ _ _ _ h) (Or.inl ⟨by rfl, ?_⟩) (HS.out) ?_
            rotate_left
            · intro w8 hw8; obtain ⟨k0, k1, k2, k3⟩ := hw8; go_simp; with_reducible rfl
            try simp only [Act.put, List.getElem_toArray, List.getElem_cons_zero, List.getElem_cons_succ, List.setIfInBounds_toArray, List.set_cons_zero, List.set_cons_succ]
            refine wpAnyH_take (i := 8) (v := ?_) rfl (by kernel_rfl) (by kernel_rfl) (by kernel_rfl) (fun ch _ _ h => hQ ch _ _ _ _ h) (Or.inl ⟨by rfl, ?_⟩) (HS.out) ?_
            rotate_left
            · intro w8 hw8; obtain ⟨k0, k1, k2, k3⟩ := hw8; go_simp; with_reducible rfl
            try simp only [Act.put, List.getElem_toArray, List.getElem_cons_zero, List.getElem_cons_succ, List.setIfInBounds_toArray, List.set_cons_zero, List.set_cons_succ]
            refine wpAnyH_take (i := 9) (v := ?_) rfl (by kernel_rfl) (by kernel_rfl) (by kernel_rfl) (fun ch _ _ h => hQ ch _ _ _ _ h) (Or.inl ⟨by rfl, ?_⟩) (HS.out) ?_
            rotate_left
            · intro w8 hw8; obtain ⟨k0, k1, k2, k3⟩ := hw8; go_simp; with_reducible rfl
            try simp only [Act.put, List.getElem_toArray, List.getElem_cons_zero, List.getElem_cons_succ, List.setIfInBounds_toArray, List.set_cons_zero, List.set_cons_succ]
            refine wpAnyH_take (i := 10) (v := ?_) rfl (by kernel_rfl) (by kernel_rfl) (by kernel_rfl) (fun ch _ _ h => hQ ch _ _ _ _ h) (Or.inl ⟨by rfl, ?_⟩) (HS.out) ?_
            rotate_left
            · intro w8 hw8; obtain ⟨k0, k1, k2, k3⟩ := hw8; go_simp; with_reducible rfl
            try simp only [Act.put, List.getElem_toArray, List.getElem_cons_zero, List.getElem_cons_succ, List.setIfInBounds_toArray, List.set_cons_zero, List.set_cons_succ]
            refine wpAnyH_take (i := 11) (v := ?_) rfl (by kernel_rfl) (by kernel_rfl) (by kernel_rfl) (fun ch _ _ h => hQ ch _ _ _ _ h) (Or.inl ⟨by rfl, ?_⟩) (HS.out) ?_
            rotate_left
            · intro w8 hw8; obtain ⟨k0, k1, k2, k3⟩ := hw8; go_simp; with_reducible rfl
            try simp only [Act.put, List.getElem_toArray, List.getElem_cons_zero, List.getElem_cons_succ, List.setIfInBounds_toArray, List.set_cons_zero, List.set_cons_succ]
            refine wpAnyH_take (i := 12) (v := .bool false) rfl (by kernel_rfl) (by kernel_rfl) (by kernel_rfl) (fun ch _ _ h => hQ ch _ _ _ _ h) (Or.inl ⟨by rfl, ?_⟩) (HS.out) ?_
            · intro w8 hw8; obtain ⟨k0, k1, k2, k3⟩ := hw8; go_simp; try simp [e5x, b2]
            try simp only [Act.put, List.getElem_toArray, List.getElem_cons_zero, List.getElem_cons_succ, List.setIfInBounds_toArray, List.set_cons_zero, List.set_cons_succ]
            refine wpAnyH_take (i := 13) (v := ?_) rfl (by kernel_rfl) (by kernel_rfl) (by kernel_rfl) (fun ch _ _ h => hQ ch _ _ _ _ h) (Or.inl ⟨by rfl, ?_⟩) (HS.out) ?_
            rotate_left
            · intro w8 hw8; obtain ⟨k0, k1, k2, k3⟩ := hw8; go_simp; with_reducible rfl
            try simp only [Act.put, List.getElem_toArray, List.getElem_cons_zero, List.getElem_cons_succ, List.setIfInBounds_toArray, List.set_cons_zero, List.set_cons_succ]
            refine wpAnyH_take (i := 14) (v := ?_) rfl (by kernel_rfl) (by kernel_rfl) (by kernel_rfl) (fun ch _ _ h => hQ ch _ _ _ _ h) (Or.inl ⟨by rfl, ?_⟩) (HS.out) ?_
            rotate_left
            · intro w8 hw8; obtain ⟨k0, k1, k2, k3⟩ := hw8; go_simp; with_reducible rfl
            try simp only [Act.put, List.getElem_toArray, List.getElem_cons_zero, List.getElem_cons_succ, List.setIfInBounds_toArray, List.set_cons_zero, List.set_cons_succ]
            refine wpAnyH_take (i := 15) (v := undef) rfl (by kernel_rfl) (by kernel_rfl) (by kernel_rfl) (fun ch _ _ h => hQ ch _ _ _ _ h) (Or.inr ⟨by rfl, rfl⟩) (HS.out) ?_
            try simp only [Act.put, List.getElem_toArray, List.getElem_cons_zero, List.getElem_cons_succ, List.setIfInBounds_toArray, List.set_cons_zero, List.set_cons_succ]
            refine wpAnyH_take (i := 16) (v := undef) rfl (by kernel_rfl) (by kernel_rfl) (by kernel_rfl) (fun ch _ _ h => hQ ch _ _ _ _ h) (Or.inr ⟨by rfl, rfl⟩) (HS.out) ?_
            try simp only [Act.put, List.getElem_toArray, List.getElem_cons_zero, List.getElem_cons_succ, List.setIfInBounds_toArray, List.set_cons_zero, List.set_cons_succ]
            refine wpAnyH_take (i := 17) (v := undef) rfl (by kernel_rfl) (by kernel_rfl) (by kernel_rfl) (fun ch _ _ h => hQ ch _ _ _ _ h) (Or.inr ⟨by rfl, rfl⟩) (HS.out) ?_
            try simp only [Act.put, List.getElem_toArray, List.getElem_cons_zero, List.getElem_cons_succ, List.setIfInBounds_toArray, List.set_cons_zero, List.set_cons_succ]
            refine wpAnyH_take (i := 18) (v := undef) rfl (by kernel_rfl) (by kernel_rfl) (by kernel_rfl) (fun ch _ _ h => hQ ch _ _ _ _ h) (Or.inr ⟨by rfl, rfl⟩) (HS.out) ?_
            try simp only [Act.put, List.getElem_toArray, List.getElem_cons_zero, List.getElem_cons_succ, List.setIfInBounds_toArray, List.set_cons_zero, List.set_cons_succ]
            refine wpAnyH_take (i := 19) (v := ?_) rfl (by kernel_rfl) (by kernel_rfl) (by kernel_rfl) (fun ch _ _ h => hQ ch _ _ _ _ h) (Or.inl ⟨by rfl, ?_⟩) (HS.out) ?_
            rotate_left
            · intro w8 hw8; obtain ⟨k0, k1, k2, k3⟩ := hw8; go_simp; with_reducible rfl
            try simp only [Act.put, List.getElem_toArray, List.getElem_cons_zero, List.getElem_cons_succ, List.setIfInBounds_toArray, List.set_cons_zero, List.set_cons_succ]
            refine wpAnyH_take (i := 20) (v := ?_) rfl (by kernel_rfl) (by kernel_rfl) (by kernel_rfl) (fun ch _ _ h => hQ ch _ _ _ _ h) (Or.inl ⟨by rfl, ?_⟩) (HS.out) ?_
            rotate_left
            · intro w8 hw8; obtain ⟨k0, k1, k2, k3⟩ := hw8; go_simp; with_reducible rfl
            try simp only [Act.put, List.getElem_toArray, List.getElem_cons_zero, List.getElem_cons_succ, List.setIfInBounds_toArray, List.set_cons_zero, List.set_cons_succ]
            refine wpAnyH_take (i := 21) (v := undef) rfl (by kernel_rfl) (by kernel_rfl) (by kernel_rfl) (fun ch _ _ h => hQ ch _ _ _ _ h) (Or.inr ⟨by rfl, rfl⟩) (HS.out) ?_
            try simp only [Act.put, List.getElem_toArray, List.getElem_cons_zero, List.getElem_cons_succ, List.setIfInBounds_toArray, List.set_cons_zero, List.set_cons_succ]
            refine wpAnyH_take (i := 22) (v := undef) rfl (by kernel_rfl) (by kernel_rfl) (by kernel_rfl) (fun ch _ _ h => hQ ch _ _ _ _ h) (Or.inr ⟨by rfl, rfl⟩) (HS.out) ?_
            try simp only [Act.put, List.getElem_toArray, List.getElem_cons_zero, List.getElem_cons_succ, List.setIfInBounds_toArray, List.set_cons_zero, List.set_cons_succ]
            refine wpAnyH_take (i := 23) (v := undef) rfl (by kernel_rfl) (by kernel_rfl) (by kernel_rfl) (fun ch _ _ h => hQ ch _ _ _ _ h) (Or.inr ⟨by rfl, rfl⟩) (HS.out) ?_
            try simp only [Act.put, List.getElem_toArray, List.getElem_cons_zero, List.getElem_cons_succ, List.setIfInBounds_toArray, List.set_cons_zero, List.set_cons_succ]
            refine wpAnyH_take (i := 24) (v := undef) rfl (by kernel_rfl) (by kernel_rfl) (by kernel_rfl) (fun ch _ _ h => hQ ch _ _ _ _ h) (Or.inr ⟨by rfl, rfl⟩) (HS.out) ?_
            try simp only [Act.put, List.getElem_toArray, List.getElem_cons_zero, List.getElem_cons_succ, List.setIfInBounds_toArray, List.set_cons_zero, List.set_cons_succ]
            refine wpAnyH_take (i := 25) (v := undef) rfl (by kernel_rfl) (by kernel_rfl) (by kernel_rfl) (fun ch _ _ h => hQ ch _ _ _ _ h) (Or.inr ⟨by rfl, rfl⟩) (HS.out) ?_
            try simp only [Act.put, List.getElem_toArray, List.getElem_cons_zero, List.getElem_cons_succ, List.setIfInBounds_toArray, List.set_cons_zero, List.set_cons_succ]
            refine wpAnyH_take (i := 26) (v := undef) rfl (by kernel_rfl) (by kernel_rfl) (by kernel_rfl) (fun ch _ _ h => hQ ch _ _ _ _ h) (Or.inr ⟨by rfl, rfl⟩) (HS.out) ?_
            try simp only [Act.put, List.getElem_toArray, List.getElem_cons_zero, List.getElem_cons_succ, List.setIfInBounds_toArray, List.set_cons_zero, List.set_cons_succ]
            refine wpAnyH_take (i := 27) (v := undef) rfl (by kernel_rfl) (by kernel_rfl) (by kernel_rfl) (fun ch _ _ h => hQ ch _ _ _ _ h) (Or.inr ⟨by rfl, rfl⟩) (HS.out) ?_
            try simp only [Act.put, List.getElem_toArray, List.getElem_cons_zero, List.getElem_cons_succ, List.setIfInBounds_toArray, List.set_cons_zero, List.set_cons_succ]
            refine wpAnyH_take (i := 28) (v := undef) rfl (by kernel_rfl) (by kernel_rfl) (by kernel_rfl) (fun ch _ _ h => hQ ch _ _ _ _ h) (Or.inr ⟨by rfl, rfl⟩) (HS.out) ?_
            try simp only [Act.put, List.getElem_toArray, List.getElem_cons_zero, List.getElem_cons_succ, List.setIfInBounds_toArray, List.set_cons_zero, List.set_cons_succ]
            refine wpAnyH_take (i := 29) (v := undef) rfl (by kernel_rfl) (by kernel_rfl) (by kernel_rfl) (fun ch _ _ h => hQ ch _ _ _ _ h) (Or.inr ⟨by rfl, rfl⟩) (HS.out) ?_
            try simp only [Act.put, List.getElem_toArray, List.getElem_cons_zero, List.getElem_cons_succ, List.setIfInBounds_toArray, List.set_cons_zero, List.set_cons_succ]
            refine wpAnyH_take (i := 30) (v := undef) rfl (by kernel_rfl) (by kernel_rfl) (by kernel_rfl) (fun ch _ _ h => hQ ch _ _ _ _ h) (Or.inr ⟨by rfl, rfl⟩) (HS.out) ?_
            try simp only [Act.put, List.getElem_toArray, List.getElem_cons_zero, List.getElem_cons_succ, List.setIfInBounds_toArray, List.set_cons_zero, List.set_cons_succ]
            refine wpAnyH_take (i := 31) (v := undef) rfl (by kernel_rfl) (by kernel_rfl) (by kernel_rfl) (fun ch _ _ h => hQ ch _ _ _ _ h) (Or.inr ⟨by rfl, rfl⟩) (HS.out) ?_
            try simp only [Act.put, List.getElem_toArray, List.getElem_cons_zero, List.getElem_cons_succ, List.setIfInBounds_toArray, List.set_cons_zero, List.set_cons_succ]
            refine wpAnyH_take (i := 32) (v := undef) rfl (by kernel_rfl) (by kernel_rfl) (by kernel_rfl) (fun ch _ _ h => hQ ch _ _ _ _ h) (Or.inr ⟨by rfl, rfl⟩) (HS.out) ?_
            try simp only [Act.put, List.getElem_toArray, List.getElem_cons_zero, List.getElem_cons_succ, List.setIfInBounds_toArray, List.set_cons_zero, List.set_cons_succ]
            refine wpAnyH_take (i := 33) (v := undef) rfl (by kernel_rfl) (by kernel_rfl) (by kernel_rfl) (fun ch _ _ h => hQ ch _ _ _ _ h) (Or.inr ⟨by rfl, rfl⟩) (HS.out) ?_
            try simp only [Act.put, List.getElem_toArray, List.getElem_cons_zero, List.getElem_cons_succ, List.setIfInBounds_toArray, List.set_cons_zero, List.set_cons_succ]
            refine wpAnyH_take (i := 34) (v := ?_) rfl (by kernel_rfl) (by kernel_rfl) (by kernel_rfl) (fun ch _ _ h => hQ ch _ _ _ _ h) (Or.inl ⟨by rfl, ?_⟩) (HS.out) ?_
            rotate_left
            · intro w8 hw8; obtain ⟨k0, k1, k2, k3⟩ := hw8; go_simp; with_reducible rfl
            try simp only [Act.put, List.getElem_toArray, List.getElem_cons_zero, List.getElem_cons_succ, List.setIfInBounds_toArray, List.set_cons_zero, List.set_cons_succ]
            refine wpAnyH_take (i := 35) (v := ?_) rfl (by kernel_rfl) (by kernel_rfl) (by kernel_rfl) (fun ch _ _ h => hQ ch _ _ _ _ h) (Or.inl ⟨by rfl, ?_⟩) (HS.out) ?_
            rotate_left
            · intro w8 hw8; obtain ⟨k0, k1, k2, k3⟩ := hw8; go_simp; with_reducible rfl
            try simp only [Act.put, List.getElem_toArray, List.getElem_cons_zero, List.getElem_cons_succ, List.setIfInBounds_toArray, List.set_cons_zero, List.set_cons_succ]
            refine wpAnyH_take (i := 36) (v := ?_) rfl (by kernel_rfl) (by kernel_rfl) (by kernel_rfl) (fun ch _ _ h => hQ ch _ _ _ _ h) (Or.inl ⟨by rfl, ?_⟩) (HS.out) ?_
            rotate_left
            · intro w8 hw8; obtain ⟨k0, k1, k2, k3⟩ := hw8; go_simp; with_reducible rfl
            try simp only [Act.put, List.getElem_toArray, List.getElem_cons_zero, List.getElem_cons_succ, List.setIfInBounds_toArray, List.set_cons_zero, List.set_cons_succ]
            refine wpAnyH_done (by kernel_rfl) ?_ _
            go_wp2
            exact ⟨⟨k + 1, HLT.out, by simp, by rw [HST.out, HH.out]; rfl, Lib.hid (below_drewN HBF.out 1)⟩, by have := HLT.out; simp [intOf]; omega⟩
    · obtain rfl : n = k := by omega
      have i0 : ¬ ((n : Nat) : Int) < n := by omega
      have HBB := HB.out
      have HEX := HE
      clear hk hlt HE
      go_wp2
      refine HEX.out _ _ _ _ _ _ _ _ _ _ _ _ _ _ _ _ _ _ _ _ _ _ _ _ _ _ _ _ _ _ _ _ _ _ _ _ _ _ _ _ _ _ HBB
end Go.Proofs.YtpmadlkkldbceaaDoor
