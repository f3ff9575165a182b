/- Entries of a tree: which are right (rightEntries). -/
import Derived.Test.YtndgadjeeinedaaGreatDoorMOb1s
import Derived.Laws.Cover1
set_option maxRecDepth 100000
namespace Go.Proofs.YtndgadjeeinedaaGreatDoor
open Go Go.RowKit
def nameAt (es:List Ent) (i:Nat):List UInt8:=((es[i]?).map (fun e=>e.name.toList)).getD []
def okAt (es:List Ent) (i:Nat):Bool:=nameOk (nameAt es i) && (decide (i=0) || Op.bytesLess (nameAt es (i - 1)) (nameAt es i))
def okTo (es:List Ent) (k:Nat):Bool:=(List.range k).all (okAt es)
def entsOk (es:List Ent):Bool:=decide (es.length≤8) && okTo es es.length
theorem okTo_succ (es:List Ent) (k:Nat):okTo es (k+1)=(okTo es k && okAt es k):=by simp [okTo,List.range_succ]
theorem okTo_false {es:List Ent} {k n:Nat} (h:okAt es k=false) (hk:k < n):okTo es n=false:=by
 unfold okTo
 rw [List.all_eq_false]
 exact ⟨k,by simpa using hk,by simp [h]⟩
theorem nameAt_is {es:List Ent} {i:Nat} (h:i < es.length):nameAt es i=es[i].name.toList:=by simp [nameAt,h]
theorem toList_data (s:ByteArray):s.toList=s.data.toList:=ByteArray.toList_eq s
set_option maxHeartbeats 1000000 in
theorem rents_any (A:Option Addr) (c:Nat) (es:List Ent) (w:World) (h:RdK w (.slice A es.length c) es.length (cellsE es)) (hf:∀ e∈es,Id32 e.id) (hn:∀ e∈es,e.name.size≤1099511627776) :
  Calls Tryz.prog 99 #[.slice A es.length c] w fun e w'=>e=.returned (.bool (entsOk es))∧Below w.heap.size w w':=by
 have HH:=Lib.hid h
 have HF:=Lib.hid hf
 have HN:=Lib.hid hn
 clear h hf hn
 by_cases h8:(8:Int) < es.length
 ·have HV:=Lib.hid (show entsOk es=false by unfold entsOk;rw [decide_eq_false (by omega)];rfl)
  go_enter Tryz.func99,Tryz.ntmps99
  go_wp2
  go_ret
  exact ⟨by rw [HV.out];rfl,Below.refl _ _⟩
 have HE:=Lib.hid (fun (b:Bool) (hb:okTo es es.length=b)=>show entsOk es=b by unfold entsOk;rw [decide_eq_true (by omega),hb];rfl)
 go_enter Tryz.func99,Tryz.ntmps99
 go_wp2
 go_loopw [10] (fun i wr=>∃ k:Nat,k≤es.length∧i=.int .i64 k∧Hid (okTo es k=true)∧Hid (Below w.heap.size w wr)) (fun i _=>es.length - (intOf i).toNat)
 case atStart=>exact ⟨0,Nat.zero_le _,rfl,Lib.hid rfl,Lib.hid (Below.refl _ _)⟩
 case round=>
  obtain ⟨k,hk,rfl,HK,HB⟩:=hrel
  by_cases hlt:k < es.length
  ·obtain ⟨sb,so,rfl,_,hsr⟩:=(HH.out.below HB.out (Nat.le_refl _)).ent rfl HF.out hlt
   have HSR:=Lib.hid hsr
   have HID:=Lib.hid (HF.out _ (List.getElem_mem hlt))
   have HNS:=Lib.hid (HN.out _ (List.getElem_mem hlt))
   have HNA:=Lib.hid (nameAt_is hlt)
   have HPR:Hid (0 < k→∃ (q:ByteArray),nameAt es (k - 1)=q.toList∧wr.cell? ⟨sb,so+(k - 1) * 33,none⟩=some (.string q)):=Lib.hid (fun h0=>by
    obtain ⟨b2,o2,hA2,_,hr2⟩:=(HH.out.below HB.out (Nat.le_refl _)).ent rfl HF.out (show k - 1 < es.length by omega)
    injection hA2 with hA2
    injection hA2 with hb2 ho2
    subst hb2 ho2
    exact ⟨_,nameAt_is (by omega),by have:=hr2 0 _ rfl;rwa [Nat.add_zero] at this⟩)
   clear hsr
   obtain ⟨en,hen⟩:∃ en,en=es[k]:=⟨_,rfl⟩
   rw [←hen] at HSR HID HNS HNA
   clear hen
   have i1:((k:Nat):Int) < es.length:=by omega
   have i2:(0:Int)≤((k:Nat):Int):=by omega
   go_wp2_with (with_reducible (show wpList _ _ _ (Oper.mk _ (Op.load 164 _) _ _ _ _::_) _ _);refine pause ?_)
   unfold Paused
   refine wpList_mid_w (by rfl) 164 (.tmp 13) (by rfl) sb (so+k * 33) (by rfl) _ _ HSR.out Tryz.underlying164 (by rfl) (by rw [cellsE1_len HID.out];kernel_rfl) ?_
   go_wp2_with (with_reducible (show wpList _ _ _ (Oper.mk _ (Op.store 164 _ _) _ _ _ _::_) _ _);refine pause ?_)
   unfold Paused
   change wpList _ _ _ _ _ (wr.alloc (.cells (cellsE1 ⟨⟨#[]⟩,List.replicate 32 0⟩).toArray 164))
   refine wpList_store_row (by rfl) 164 (.tmp 4) (.tmp 14) (by rfl) wr.heap.size (cellsE1 en).toArray (by rfl) (by rfl) 164 (cellsE1 ⟨⟨#[]⟩,List.replicate 32 0⟩).toArray (Blk.new wr _ _) (by rw [List.size_toArray,cellsE1_len HID.out];kernel_rfl) (by rw [List.size_toArray,List.size_toArray,cellsE1_len HID.out];rfl) (arr_one (cellsE1_one en)) ?_
   have hbe:Below wr.heap.size wr ((wr.alloc (.cells (cellsE1 ⟨⟨#[]⟩,List.replicate 32 0⟩).toArray 164)).setRow wr.heap.size (cellsE1 en).toArray):=below_row ((Below.refl _ _).alloc (Nat.le_refl _) _) (Nat.le_refl _) _
   have HBa:=Lib.hid (below_next HB.out hbe)
   have HXa:=Lib.hid ((Blk.new wr 164 (cellsE1 ⟨⟨#[]⟩,List.replicate 32 0⟩).toArray).row (cellsE1 en).toArray)
   have HPa:Hid (0 < k→∃ (q:ByteArray),nameAt es (k - 1)=q.toList∧((wr.alloc (.cells (cellsE1 ⟨⟨#[]⟩,List.replicate 32 0⟩).toArray 164)).setRow wr.heap.size (cellsE1 en).toArray).cell? ⟨sb,so+(k - 1) * 33,none⟩=some (.string q)):=Lib.hid (fun h0=>by
    obtain ⟨q,h1,h2⟩:=HPR.out h0
    exact ⟨q,h1,(hbe.cell (p:=⟨sb,so+(k - 1) * 33,none⟩) (block_lt_of_cell h2)).trans h2⟩)
   clear hbe
   generalize World.setRow _ wr.heap.size (cellsE1 en).toArray=wa at HBa HXa HPa ⊢
   generalize wr.heap.size=gx at HXa ⊢
   simp only [Act.put]
   have d0:wa.cell? ⟨gx,0,none⟩=some (.string en.name):=HXa.out.cell 0
   have CN:=fun w=>rname_any en.name w HNS.out
   have HNE:Hid (nameAt es k=en.name.data.toList):=Lib.hid (by rw [HNA.out,toList_data])
   have HNL:Hid (nameAt es k=en.name.toList):=HNA
   obtain ⟨bn,hbn⟩:∃ bn,bn=nameOk en.name.data.toList:=⟨_,rfl⟩
   rw [←hbn] at CN
   have HBN:=Lib.hid hbn
   clear hbn
   cases bn
   ·have HV:=Lib.hid (HE.out false (okTo_false (k:=k) (by unfold okAt;rw [HNE.out,←HBN.out];rfl) hlt))
    go_wp2
    go_quiet (first | (go_at_call 114;exact Calls.quiet_of_same (CN _)))
    go_wp2
    go_ret
    exact ⟨by rw [HV.out];rfl,below_drewN HBa.out _⟩
   by_cases h0:k=0
   ·subst h0
    have HO:=Lib.hid (show okTo es 1=true by rw [okTo_succ,HK.out];unfold okAt;rw [HNE.out,←HBN.out];rfl)
    go_wp2
    go_quiet (first | (go_at_call 114;exact Calls.quiet_of_same (CN _)))
    go_wp2
    have HBn:=Lib.hid (below_drewN HBa.out nq)
    go_roundw
    case rel=>exact ⟨1,by omega,by go_num,HO,HBn⟩
    case measure=>simp [intOf];omega
   ·obtain ⟨q,hq1,hq2⟩:=HPa.out (by omega)
    have HQ1:=Lib.hid hq1
    have i3:(0:Int) < ((k:Nat):Int):=by omega
    have i3n:0 < k:=by omega
    have i4:wrap64 ((k:Int) - 1)=((k - 1:Nat):Int):=by rw [IntWalk.wrap64_in _ (by omega)];omega
    have i4b:IntKind.i64.wrap ((k:Int) - 1)=((k - 1:Nat):Int):=(IntWalk.i64_left _).trans i4
    have i5:((k - 1:Nat):Int) < es.length:=by omega
    have i6:(0:Int)≤((k - 1:Nat):Int):=by omega
    obtain ⟨bl,hbl⟩:∃ bl,bl=Op.bytesLess q.toList en.name.toList:=⟨_,rfl⟩
    have HBL:=Lib.hid hbl
    have hbl2:=hbl.symm
    clear hq1 hbl
    cases bl
    ·have HV:=Lib.hid (HE.out false (okTo_false (k:=k) (by unfold okAt;rw [HQ1.out,HNL.out,←HBL.out,decide_eq_false h0];simp) hlt))
     go_wp2
     go_quiet (first | (go_at_call 114;exact Calls.quiet_of_same (CN _)))
     go_wp2
     go_ret
     exact ⟨by rw [HV.out];rfl,below_drewN HBa.out _⟩
    ·have HO:=Lib.hid (show okTo es (k+1)=true by
      have hA:nameOk (nameAt es k)=true:=by rw [HNE.out];exact HBN.out.symm
      have hB:Op.bytesLess (nameAt es (k - 1)) (nameAt es k)=true:=by rw [HQ1.out,HNL.out];exact HBL.out.symm
      rw [okTo_succ,HK.out];unfold okAt;rw [hA,hB];simp)
     go_wp2
     go_quiet (first | (go_at_call 114;exact Calls.quiet_of_same (CN _)))
     go_wp2
     have HBn:=Lib.hid (below_drewN HBa.out nq)
     go_roundw
     case rel=>exact ⟨k+1,by omega,by go_num,HO,HBn⟩
     case measure=>simp [intOf];omega
  ·have hke:k=es.length:=by omega
   subst hke
   have HV:=Lib.hid (HE.out true HK.out)
   go_wp2
   go_ret
   exact ⟨by rw [HV.out];rfl,HB.out⟩
def aimsB (k:Int):Bool:=decide (k=3) || decide (k=4)
noncomputable def Ob.strange (o:Ob):Bool:=
 (decide (0 < o.text.length) && decide (o.kind=2)) || (decide (0 < o.ents.length) && !decide (o.kind=2)) || (!(eqv o.target zeros32) && !aimsB o.kind) || (decide (0 < o.pars.length) && !decide (o.kind=3))
theorem aims_any (k:Int) (w:World):Calls Tryz.prog 113 #[.int .i64 k] w fun e w'=>e=.returned (.bool (aimsB k))∧w=w':=by
 by_cases h3:k=3
 ·subst h3
  go_enter Tryz.func113,Tryz.ntmps113
  go_wp2
  go_ret
  exact ⟨rfl,rfl⟩
 by_cases h4:k=4
 ·subst h4
  go_enter Tryz.func113,Tryz.ntmps113
  go_wp2
  go_ret
  exact ⟨rfl,rfl⟩
 ·have b3:(k == 3)=false:=by simp [h3]
  have b4:(k == 4)=false:=by simp [h4]
  have HV:=Lib.hid (show aimsB k=false by unfold aimsB;rw [decide_eq_false h3,decide_eq_false h4];rfl)
  clear h3 h4
  go_enter Tryz.func113,Tryz.ntmps113
  go_wp2
  go_ret
  exact ⟨by rw [HV.out];rfl,rfl⟩
set_option maxHeartbeats 16000000 in
theorem strange_any (o : Ob) (cs : Array Value) (T E P : Option Addr) (tc ec pc : Nat) (w : World) (h : ObC w o cs T tc E ec P pc) (hf : o.Fit) :
    Calls Tryz.prog 98 #[.agg cs] w fun e w' => e = .returned (.bool o.strange) ∧ Below w.heap.size w w' := by
  obtain ⟨w2, hw2⟩ : ∃ w2, w2 = w.alloc (.cells cs 101) := ⟨_, rfl⟩
  have HBE := Lib.hid (show Below w.heap.size w w2 from hw2 ▸ (Below.refl _ _).alloc (Nat.le_refl _) _)
  have B1 : Blk w2 w.heap.size 101 cs := hw2 ▸ Blk.new w _ cs
  have a0 : w2.cell? ⟨w.heap.size, 0, none⟩ = some (.int .i64 o.kind) := (B1.cell 0).trans h.c0
  have a1 : w2.cell? ⟨w.heap.size, 1, none⟩ = some (.slice T o.text.length tc) := (B1.cell 1).trans h.c1
  have a2 : w2.cell? ⟨w.heap.size, 2, none⟩ = some (.slice E o.ents.length ec) := (B1.cell 2).trans h.c2
  have a3 : w2.cell? ⟨w.heap.size, 35, none⟩ = some (.slice P o.pars.length pc) := (B1.cell 35).trans (h.c35 hf)
  have M1 := Lib.hid (h.mid B1)
  have N1 := Lib.hid (show (Tryz.prog.info? 42).map (·.size) = some (cellsB o.target).length by rw [cellsP1_len hf.target]; kernel_rfl)
  have HQ := Lib.hid (id_eq w2 o.target zeros32 hf.target zeros_id)
  have hz : (cellsB zeros32).toArray = #[.int .u8 0, .int .u8 0, .int .u8 0, .int .u8 0, .int .u8 0, .int .u8 0, .int .u8 0, .int .u8 0, .int .u8 0, .int .u8 0, .int .u8 0, .int .u8 0, .int .u8 0, .int .u8 0, .int .u8 0, .int .u8 0, .int .u8 0, .int .u8 0, .int .u8 0, .int .u8 0, .int .u8 0, .int .u8 0, .int .u8 0, .int .u8 0, .int .u8 0, .int .u8 0, .int .u8 0, .int .u8 0, .int .u8 0, .int .u8 0, .int .u8 0, .int .u8 0] := rfl
  have CA := aims_any o.kind w2
  have hw3 := hw2.symm
  have HR : Hid (((decide (0 < o.text.length) && decide (o.kind = 2)) || (decide (0 < o.ents.length) && !decide (o.kind = 2)) || (!(eqv o.target zeros32) && !aimsB o.kind) || (decide (0 < o.pars.length) && !decide (o.kind = 3))) = o.strange) := Lib.hid rfl
  clear h B1 hw2 hf
  generalize o.strange = r at HR ⊢
  generalize o.kind = k at *
  generalize eqv o.target zeros32 = rz at HR HQ
  generalize cellsB o.target = cta at *
  generalize o.text.length = n1 at *
  generalize o.ents.length = n2 at *
  generalize o.pars.length = n3 at *
  rcases (show k = 2 ∨ k = 3 ∨ k = 4 ∨ (k ≠ 2 ∧ k ≠ 3 ∧ k ≠ 4) by omega) with hk | hk | hk | hk
  rotate_left 3
  · have b2 : (k == 2) = false := by simp [hk.1]
    have c2 : (k != 2) = true := by simp [hk.1]
    have c3 : (k != 3) = true := by simp [hk.2.1]
    have ha : aimsB k = false := by unfold aimsB; rw [decide_eq_false hk.2.1, decide_eq_false hk.2.2]; rfl
    rw [ha] at CA HR
    rw [decide_eq_false hk.1, decide_eq_false hk.2.1] at HR
    clear hk ha
    rcases Nat.eq_zero_or_pos n1 with rfl | p1 <;> rcases Nat.eq_zero_or_pos n2 with rfl | p2 <;> rcases Nat.eq_zero_or_pos n3 with rfl | p3 <;> cases rz
    all_goals (
     try (have g1 : (0 : Int) < (n1 : Int) := by omega)
     try (have g2 : (0 : Int) < (n2 : Int) := by omega)
     try (have g3 : (0 : Int) < (n3 : Int) := by omega)
     try rw [decide_eq_true p1] at HR
     try rw [decide_eq_true p2] at HR
     try rw [decide_eq_true p3] at HR
     first
      | (go_enter Tryz.func98, Tryz.ntmps98
         go_wp2_with (first
           | (with_reducible (show wpList _ _ _ (Oper.mk _ (Op.load 42 _) _ _ _ _ :: _) _ _); refine pause ?_)
           | (go_at_call 113; refine CA.mono ?_; rintro e w' ⟨rfl, rfl⟩))
         unfold Paused
         refine wpList_mid_w (by rfl) 42 (.tmp 24) (by rfl) w.heap.size 3 (by rfl) _ _ M1.out Tryz.underlying42 (by rfl) N1.out ?_
         have q1 := HQ.out
         rw [hz] at q1
         go_wp2_with (go_at_call 113; refine CA.mono ?_; rintro e w' ⟨rfl, rfl⟩)
         go_ret
         exact ⟨by rw [← HR.out]; rfl, HBE.out⟩)
      | (go_enter Tryz.func98, Tryz.ntmps98
         go_wp2
         go_ret
         exact ⟨by rw [← HR.out]; rfl, HBE.out⟩))
  all_goals (
    subst hk
    rcases Nat.eq_zero_or_pos n1 with rfl | p1 <;> rcases Nat.eq_zero_or_pos n2 with rfl | p2 <;> rcases Nat.eq_zero_or_pos n3 with rfl | p3 <;> cases rz
    all_goals (
     try (have g1 : (0 : Int) < (n1 : Int) := by omega)
     try (have g2 : (0 : Int) < (n2 : Int) := by omega)
     try (have g3 : (0 : Int) < (n3 : Int) := by omega)
     try rw [decide_eq_true p1] at HR
     try rw [decide_eq_true p2] at HR
     try rw [decide_eq_true p3] at HR
     first
      | (go_enter Tryz.func98, Tryz.ntmps98
         go_wp2_with (first
           | (with_reducible (show wpList _ _ _ (Oper.mk _ (Op.load 42 _) _ _ _ _ :: _) _ _); refine pause ?_)
           | (go_at_call 113; refine CA.mono ?_; rintro e w' ⟨rfl, rfl⟩))
         unfold Paused
         refine wpList_mid_w (by rfl) 42 (.tmp 24) (by rfl) w.heap.size 3 (by rfl) _ _ M1.out Tryz.underlying42 (by rfl) N1.out ?_
         have q1 := HQ.out
         rw [hz] at q1
         go_wp2_with (go_at_call 113; refine CA.mono ?_; rintro e w' ⟨rfl, rfl⟩)
         go_ret
         exact ⟨by rw [← HR.out]; rfl, HBE.out⟩)
      | (go_enter Tryz.func98, Tryz.ntmps98
         go_wp2
         go_ret
         exact ⟨by rw [← HR.out]; rfl, HBE.out⟩)))
end Go.Proofs.YtndgadjeeinedaaGreatDoor
