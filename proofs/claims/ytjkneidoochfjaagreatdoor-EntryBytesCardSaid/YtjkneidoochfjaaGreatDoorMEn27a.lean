/- 'ref, from, to := string(i.Text()), i.Oid(), i.Oid()': three calls and two variables, in whatever order: what stands at each state. -/
import Derived.Test.YtjkneidoochfjaaGreatDoorMEn25s
namespace Go.Proofs.YtjkneidoochfjaaGreatDoor
open Go Go.RowKit
/-- which of its operations have come up -/
structure St5 where
  b1 : Bool
  z : Bool
  b2 : Bool
  b3 : Bool
  ax : Bool
  bx : Bool
def St5.ls (s : St5) : Array Bool := #[true, s.b1, s.z, true, s.b2, true, s.b3, s.ax, s.bx, false, false, false]
def St5.left (s : St5) : Nat := (!s.b1).toNat + ((!s.z).toNat + ((!s.b2).toNat + ((!s.b3).toNat + ((!s.ax).toNat + (!s.bx).toNat))))
def St5.nx (s : St5) : List Nat := (if s.b1 then [] else [1]) ++ ((if s.b1 && !s.z then [2] else []) ++ ((if s.b1 && !s.b2 then [4] else []) ++ ((if s.b2 && !s.b3 then [6] else []) ++ ((if s.ax then [] else [7]) ++ (if s.bx then [] else [8])))))
def St5.V (s : St5) : Prop := (s.b1 = false → s.z = false ∧ s.b2 = false ∧ s.b3 = false) ∧ (s.b2 = false → s.b3 = false)
theorem St5.mem_nx {s : St5} {i : Nat} (h : i ∈ s.nx) : (i = 1 ∧ s.b1 = false) ∨ (i = 2 ∧ s.b1 = true ∧ s.z = false) ∨ (i = 4 ∧ s.b1 = true ∧ s.b2 = false) ∨ (i = 6 ∧ s.b2 = true ∧ s.b3 = false) ∨ (i = 7 ∧ s.ax = false) ∨ (i = 8 ∧ s.bx = false) := by
  obtain ⟨b1, z, b2, b3, ax, bx⟩ := s
  cases b1 <;> cases z <;> cases b2 <;> cases b3 <;> cases ax <;> cases bx <;> simp [St5.nx] at h ⊢ <;> omega
theorem St5.nx_ne {s : St5} (hv : s.V) (hl : s.left ≠ 0) : s.nx ≠ [] := by
  obtain ⟨b1, z, b2, b3, ax, bx⟩ := s
  obtain ⟨h1, h2⟩ := hv
  cases b1 <;> cases z <;> cases b2 <;> cases b3 <;> cases ax <;> cases bx <;> simp [St5.nx, St5.left] at hl h1 h2 ⊢
def zO : Array Value := u8s (List.replicate 32 0)
/-- what was read so far -/
def F5 (m : Nat) (w' : World) (zs ys : List Nat) (s : St5) (v21 v22 v24 v26 : Value) : Prop :=
  match s.b1 with
  | false => s.z = false ∧ s.b2 = false ∧ s.b3 = false ∧ ys = zs
  | true => ∃ tx z1, En.txt zs = .ok tx z1 ∧ (∃ A c, v21 = .slice A tx.length c) ∧ CpT m w' v21 tx ∧ tx.length ≤ 100000 ∧ Oc.bytes tx ∧ (s.z = true → v22 = .string (textOf tx)) ∧
    (match s.b2 with
    | false => s.b3 = false ∧ ys = z1
    | true => ∃ o1 z2, En.oid z1 = .ok o1 z2 ∧ Id32 o1 ∧ v24 = .agg (u8s o1) ∧
      (match s.b3 with
      | false => ys = z2
      | true => ∃ o2, En.oid z2 = .ok o2 ys ∧ Id32 o2 ∧ v26 = .agg (u8s o2)))
/-- the two variables -/
def V5 (m : Nat) (w' : World) (s : St5) (v5 v6 : Value) : Prop :=
  (s.ax = true → ∃ g, v5 = .pointer (some ⟨g, 0, none⟩) ∧ m ≤ g ∧ Blk w' g 54 zO) ∧ (s.bx = true → ∃ g, v6 = .pointer (some ⟨g, 0, none⟩) ∧ m ≤ g ∧ Blk w' g 54 zO) ∧ (s.ax = true → s.bx = true → v5 ≠ v6)
/-- what stands at a state -/
structure I5 (w0 w : World) (i r : Nat) (x y z : Int) (vU : Value) (us : List En.Up) (zs : List Nat) (s : St5) (v21 v22 v24 v26 v5 v6 : Value) (ys : List Nat) (w' : World) : Prop where
  rd : RdE w0 w w' i r x y z vU us (.slice none 0 0) [] ys
  len : ys.length ≤ 100000
  f : F5 (w.heap.size + 2) w' zs ys s v21 v22 v24 v26
  v : V5 (w.heap.size + 2) w' s v5 v6
theorem wp_convE {P : Program} {o : Oper} {a : Act} {w : World} {K : Act → World → Prop} {Q : Exit → Act → World → Prop} (s d : TypeId) (x : Operand) (ho : o.op = .convert s d x) (u : Value) (hx : a.eval x = u) (r : Value) (w' : World) (h : (convert s d u).run P w = .ok r w') (hk : K (a.put o.dst r) w') : o.wp P a w K Q := by
  unfold Oper.wp execOp
  simp only [ho, hx, Sem.run_bind, h, Result.andThen_ok]
  exact hk
theorem updZ_places : (Tryz.prog.fieldsOf 56).toList.mapM (fun f => (Tryz.prog.info? f.type).map fun i => (f.offset, i.size)) = some [(0, 1), (1, 32), (33, 32)] := by kernel_rfl
theorem updZ_zero : ((Tryz.prog.info? 56).bind (·.zero)).map (·.cells) = some (cellsU1 ⟨⟨#[]⟩, List.replicate 32 0, List.replicate 32 0⟩).toArray := by kernel_rfl
theorem updZ_under : Tryz.prog.underlying 56 = some (.struct (Tryz.prog.fieldsOf 56)) := by kernel_rfl
theorem updZ_built (u : En.Up) (h : u.Fit) : Tryz.prog.built 56 [(0, .string u.ref), (1, .agg (cellsB u.old).toArray), (2, .agg (cellsB u.new).toArray)] = some (cellsU1 u).toArray := by
  rw [built_of updZ_under updZ_zero updZ_places]
  exact rup_fill u h
/-- a block of an id is written -/
theorem RdE.id {w0 w wr : World} {i r g : Nat} {x y z : Int} {vU vO : Value} {us : List En.Up} {ts : List En.Bt} {ys : List Nat} {cs : Array Value} (h : RdE w0 w wr i r x y z vU us vO ts ys) (hb : Blk wr g 54 cs) (hl : w.heap.size + 2 ≤ g) (cs' : Array Value) : RdE w0 w (wr.setRow g cs') i r x y z vU us vO ts ys ∧ Blk (wr.setRow g cs') g 54 cs' ∧ ∀ g' T c, g' ≠ g → Blk wr g' T c → Blk (wr.setRow g cs') g' T c := by
  have hg : wr.grownBy (wr.setRow g cs') (some g) := only_setRow (World.grownBy.refl wr _) (Or.inl rfl) _
  obtain ⟨h1, h2, h3, h4⟩ := h.mid hg (by omega) ⟨_, _, hb, by decide⟩
  exact ⟨⟨h1, h.bys, h.box.grown hg (fun e => by injection e with e; omega), h2, own_off2 h.ups hg hb (by decide), own_off2 h.objs hg hb (by decide), h3, h.fit, h4, h.old⟩, hb.row _, fun g' T c hne hb' => hb'.grown hg (fun e => hne (by injection e))⟩
/-- and in which frame -/
def IS5 (a1 : Act) (w0 w : World) (i r : Nat) (x y z : Int) (vU : Value) (us : List En.Up) (zs : List Nat) (s : St5) (a : Act) (w' : World) : Prop :=
  ∃ v21 v22 v24 v26 v5 v6 ys, a = ((((((a1.put (some 21) v21).put (some 22) v22).put (some 24) v24).put (some 26) v26).put (some 5) v5).put (some 6) v6) ∧ I5 w0 w i r x y z vU us zs s v21 v22 v24 v26 v5 v6 ys w'
section
variable {w0 w wr w' : World} {i r m : Nat} {x y z : Int} {vU : Value} {us : List En.Up} {zs ys : List Nat} {s : St5} {v21 v22 v24 v26 v5 v6 : Value}
theorem F5.kept (h : F5 m wr zs ys s v21 v22 v24 v26) (hk : ∀ u l, CpT m wr u l → CpT m w' u l) : F5 m w' zs ys s v21 v22 v24 v26 := by
  unfold F5 at h ⊢
  cases hb : s.b1 with
  | false => rw [hb] at h; exact h
  | true =>
    rw [hb] at h
    obtain ⟨tx, z1, h1, h2, h3, h4⟩ := h
    exact ⟨tx, z1, h1, h2, hk _ _ h3, h4⟩
theorem V5.kept (h : V5 m wr s v5 v6) (hk : ∀ g, m ≤ g → Blk wr g 54 zO → Blk w' g 54 zO) : V5 m w' s v5 v6 :=
  ⟨fun hx => by
    obtain ⟨g, h1, h2, h3⟩ := h.1 hx
    exact ⟨g, h1, h2, hk g h2 h3⟩, fun hx => by
    obtain ⟨g, h1, h2, h3⟩ := h.2.1 hx
    exact ⟨g, h1, h2, hk g h2 h3⟩, h.2.2⟩
theorem I5.reads (h : I5 w0 w i r x y z vU us zs s v21 v22 v24 v26 v5 v6 ys wr) {zs' : List Nat} (hg : wr.grownBy w' (some r)) (hi : InAt w0 w' i r zs') (hb : Oc.bytes zs') : RdE w0 w w' i r x y z vU us (.slice none 0 0) [] zs' ∧ (∀ u l, CpT (w.heap.size + 2) wr u l → CpT (w.heap.size + 2) w' u l) ∧ V5 (w.heap.size + 2) w' s v5 v6 :=
  ⟨h.rd.read hg hi hb, fun u l hc => hc.grown hg h.rd.at_.typ, h.v.kept fun g hgl hbk => hbk.grown hg (fun e => by injection e with e; have := h.rd.old.1; omega)⟩
/-- the text is read -/
theorem I5.text {z' b2 b3 ax bx : Bool} (h : I5 w0 w i r x y z vU us zs ⟨false, z', b2, b3, ax, bx⟩ v21 v22 v24 v26 v5 v6 ys wr) {tx z1 : List Nat} {A : Option Addr} {c : Nat} (ht : En.txt ys = .ok tx z1) (hc : CpT wr.heap.size w' (.slice A tx.length c) tx) (hi : InAt w0 w' i r z1) (hg : wr.grownBy w' (some r)) (hb : Oc.bytes z1) (hl : z1.length ≤ ys.length) (hbt : Oc.bytes tx) (htl : tx.length ≤ ys.length) :
    I5 w0 w i r x y z vU us zs ⟨true, z', b2, b3, ax, bx⟩ (.slice A tx.length c) v22 v24 v26 v5 v6 z1 w' := by
  obtain ⟨h1, h2, h3⟩ := h.reads hg hi hb
  obtain ⟨rfl, rfl, rfl, rfl⟩ : z' = false ∧ b2 = false ∧ b3 = false ∧ ys = zs := h.f
  have := h.len
  exact ⟨h1, by omega, ⟨tx, z1, ht, ⟨A, c, rfl⟩, hc.lower h.rd.big, by omega, hbt, fun h => (by cases h), rfl, rfl⟩, h3⟩
/-- the first id is read -/
theorem I5.oid1 {z' b3 ax bx : Bool} (h : I5 w0 w i r x y z vU us zs ⟨true, z', false, b3, ax, bx⟩ v21 v22 v24 v26 v5 v6 ys wr) {o1 z2 : List Nat} (ho : En.oid ys = .ok o1 z2) (hid : Id32 o1) (hi : InAt w0 w' i r z2) (hg : wr.grownBy w' (some r)) (hb : Oc.bytes z2) (hl : z2.length ≤ ys.length) :
    I5 w0 w i r x y z vU us zs ⟨true, z', true, b3, ax, bx⟩ v21 v22 (.agg (u8s o1)) v26 v5 v6 z2 w' := by
  obtain ⟨h1, h2, h3⟩ := h.reads hg hi hb
  obtain ⟨tx, z1, k1, k2, k3, k4, k5, k6, rfl, rfl⟩ := h.f
  have := h.len
  exact ⟨h1, by omega, ⟨tx, _, k1, k2, h2 _ _ k3, k4, k5, k6, o1, z2, ho, hid, rfl, rfl⟩, h3⟩
/-- the second id is read -/
theorem I5.oid2 {z' ax bx : Bool} (h : I5 w0 w i r x y z vU us zs ⟨true, z', true, false, ax, bx⟩ v21 v22 v24 v26 v5 v6 ys wr) {o2 z3 : List Nat} (ho : En.oid ys = .ok o2 z3) (hid : Id32 o2) (hi : InAt w0 w' i r z3) (hg : wr.grownBy w' (some r)) (hb : Oc.bytes z3) (hl : z3.length ≤ ys.length) :
    I5 w0 w i r x y z vU us zs ⟨true, z', true, true, ax, bx⟩ v21 v22 v24 (.agg (u8s o2)) v5 v6 z3 w' := by
  obtain ⟨h1, h2, h3⟩ := h.reads hg hi hb
  obtain ⟨tx, z1, k1, k2, k3, k4, k5, k6, o1, z2, k7, k8, k9, rfl⟩ := h.f
  have := h.len
  exact ⟨h1, by omega, ⟨tx, z1, k1, k2, h2 _ _ k3, k4, k5, k6, o1, _, k7, k8, k9, o2, ho, hid, rfl⟩, h3⟩
/-- the text is turned into a string -/
theorem I5.conv {b2 b3 ax bx : Bool} (h : I5 w0 w i r x y z vU us zs ⟨true, false, b2, b3, ax, bx⟩ v21 v22 v24 v26 v5 v6 ys wr) : ∃ T : ByteArray, (convert 32 9 v21).run Tryz.prog wr = .ok (.string T) wr ∧ I5 w0 w i r x y z vU us zs ⟨true, true, b2, b3, ax, bx⟩ v21 (.string T) v24 v26 v5 v6 ys wr := by
  obtain ⟨tx, z1, k1, k2, k3, k4, k5, _, k7⟩ := h.f
  exact ⟨textOf tx, conv_rd k3.rd, h.rd, h.len, ⟨tx, z1, k1, k2, k3, k4, k5, fun _ => rfl, k7⟩, h.v⟩
theorem I5.below (h : I5 w0 w i r x y z vU us zs s v21 v22 v24 v26 v5 v6 ys wr) (hb : Below wr.heap.size wr w') : I5 w0 w i r x y z vU us zs s v21 v22 v24 v26 v5 v6 ys w' :=
  ⟨h.rd.below hb, h.len, h.f.kept fun _u _l hc => hc.below hb, h.v.kept fun _g _hgl hbk => hbk.below hb hbk.lt⟩
/-- the first variable -/
theorem I5.varA {b1 z' b2 b3 bx : Bool} (h : I5 w0 w i r x y z vU us zs ⟨b1, z', b2, b3, false, bx⟩ v21 v22 v24 v26 v5 v6 ys wr) : I5 w0 w i r x y z vU us zs ⟨b1, z', b2, b3, true, bx⟩ v21 v22 v24 v26 (.pointer (some ⟨wr.heap.size, 0, none⟩)) v6 ys (wr.alloc (.cells zO 54)) := by
  have h1 := h.below ((Below.refl _ _).alloc (Nat.le_refl _) (.cells zO 54))
  refine ⟨h1.rd, h1.len, h1.f, fun _ => ⟨_, rfl, h.rd.big, Blk.new wr _ _⟩, h1.v.2.1, fun _ hb e => ?_⟩
  obtain ⟨g, hg, _, hbk⟩ := h.v.2.1 hb
  rw [hg] at e
  injection e with e
  injection e with e
  injection e with e _ _
  have := hbk.lt
  omega
/-- the second variable -/
theorem I5.varB {b1 z' b2 b3 ax : Bool} (h : I5 w0 w i r x y z vU us zs ⟨b1, z', b2, b3, ax, false⟩ v21 v22 v24 v26 v5 v6 ys wr) : I5 w0 w i r x y z vU us zs ⟨b1, z', b2, b3, ax, true⟩ v21 v22 v24 v26 v5 (.pointer (some ⟨wr.heap.size, 0, none⟩)) ys (wr.alloc (.cells zO 54)) := by
  have h1 := h.below ((Below.refl _ _).alloc (Nat.le_refl _) (.cells zO 54))
  refine ⟨h1.rd, h1.len, h1.f, h1.v.1, fun _ => ⟨_, rfl, h.rd.big, Blk.new wr _ _⟩, fun ha _ e => ?_⟩
  obtain ⟨g, hg, _, hbk⟩ := h.v.1 ha
  rw [hg] at e
  injection e with e
  injection e with e
  injection e with e _ _
  have := hbk.lt
  omega
/-- which update it is -/
theorem I5.all (h : I5 w0 w i r x y z vU us zs ⟨true, true, true, true, true, true⟩ v21 v22 v24 v26 v5 v6 ys wr) : ∃ u : En.Up, u.Fit ∧ En.rdUp zs = .ok u ys ∧ v22 = .string u.ref ∧ v24 = .agg (u8s u.old) ∧ v26 = .agg (u8s u.new) ∧ ∃ g5 g6, v5 = .pointer (some ⟨g5, 0, none⟩) ∧ v6 = .pointer (some ⟨g6, 0, none⟩) ∧ w.heap.size + 2 ≤ g5 ∧ w.heap.size + 2 ≤ g6 ∧ g5 ≠ g6 ∧ Blk wr g5 54 zO ∧ Blk wr g6 54 zO := by
  obtain ⟨tx, z1, k1, k2, k3, k4, k5, k6, o1, z2, k7, k8, k9, o2, k10, k11, k12⟩ := h.f
  obtain ⟨g5, e5, l5, hb5⟩ := h.v.1 rfl
  obtain ⟨g6, e6, l6, hb6⟩ := h.v.2.1 rfl
  refine ⟨⟨textOf tx, o1, o2⟩, ⟨k8, k11⟩, ?_, k6 rfl, k9, k12, g5, g6, e5, e6, l5, l6, fun e => h.v.2.2 rfl rfl (by rw [e5, e6, e]), hb5, hb6⟩
  unfold En.rdUp
  rw [k1]
  dsimp only
  rw [k7]
  dsimp only
  rw [k10]
theorem I5.bad1 {z' b2 b3 ax bx : Bool} (h : I5 w0 w i r x y z vU us zs ⟨false, z', b2, b3, ax, bx⟩ v21 v22 v24 v26 v5 v6 ys wr) {e : Nat} (ht : En.txt ys = .bad e) : En.rdUp zs = .bad e := by
  obtain ⟨rfl, rfl, rfl, rfl⟩ : z' = false ∧ b2 = false ∧ b3 = false ∧ ys = zs := h.f
  unfold En.rdUp
  rw [ht]
theorem I5.bad2 {z' b3 ax bx : Bool} (h : I5 w0 w i r x y z vU us zs ⟨true, z', false, b3, ax, bx⟩ v21 v22 v24 v26 v5 v6 ys wr) {e : Nat} (ht : En.oid ys = .bad e) : En.rdUp zs = .bad e := by
  obtain ⟨tx, z1, k1, k2, k3, k4, k5, k6, rfl, rfl⟩ := h.f
  unfold En.rdUp
  rw [k1]
  dsimp only
  rw [ht]
theorem I5.bad3 {z' ax bx : Bool} (h : I5 w0 w i r x y z vU us zs ⟨true, z', true, false, ax, bx⟩ v21 v22 v24 v26 v5 v6 ys wr) {e : Nat} (ht : En.oid ys = .bad e) : En.rdUp zs = .bad e := by
  obtain ⟨tx, z1, k1, k2, k3, k4, k5, k6, o1, z2, k7, k8, k9, rfl⟩ := h.f
  unfold En.rdUp
  rw [k1]
  dsimp only
  rw [k7]
  dsimp only
  rw [ht]
/-- states that can't be -/
theorem I5.wf {b1 z' b2 b3 ax bx : Bool} (h : I5 w0 w i r x y z vU us zs ⟨b1, z', b2, b3, ax, bx⟩ v21 v22 v24 v26 v5 v6 ys wr) : (b1 = false → z' = false ∧ b2 = false ∧ b3 = false) ∧ (b2 = false → b3 = false) := by
  have hf := h.f
  unfold F5 at hf
  cases b1 with
  | false => exact ⟨fun _ => ⟨hf.1, hf.2.1, hf.2.2.1⟩, fun _ => hf.2.2.1⟩
  | true =>
    refine ⟨fun h => (by cases h), fun hb => ?_⟩
    subst hb
    obtain ⟨tx, z1, _, _, _, _, _, _, h1, _⟩ := hf
    exact h1
end
end Go.Proofs.YtjkneidoochfjaaGreatDoor
