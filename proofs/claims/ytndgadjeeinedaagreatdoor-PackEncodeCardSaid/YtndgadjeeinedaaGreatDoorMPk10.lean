/- An item as it is told: by itself, or by a delta from its base. -/
import Derived.Test.YtndgadjeeinedaaGreatDoorMPk9
set_option maxRecDepth 100000
namespace Go.Proofs.YtndgadjeeinedaaGreatDoor
open Go Go.RowKit
theorem byte_app {xs ys:List Nat} (hx:Sha.Byte xs) (hy:Sha.Byte ys):Sha.Byte (xs++ys):=fun i=>by
 by_cases h:i < xs.length
 ·rw [List.getD_eq_getElem?_getD,List.getElem?_append_left h,←List.getD_eq_getElem?_getD];exact hx i
 ·rw [List.getD_eq_getElem?_getD,List.getElem?_append_right (by omega),←List.getD_eq_getElem?_getD];exact hy _
theorem byte_take {xs:List Nat} (hx:Sha.Byte xs) (k:Nat):Sha.Byte (xs.take k):=fun i=>by
 rw [List.getD_eq_getElem?_getD,List.getElem?_take]
 split
 ·rw [←List.getD_eq_getElem?_getD];exact hx i
 ·simp
theorem byte_drop {xs:List Nat} (hx:Sha.Byte xs) (k:Nat):Sha.Byte (xs.drop k):=fun i=>by rw [Sha.getD_drop];exact hx _
theorem byte_nil:Sha.Byte []:=fun i=>by simp
theorem runE_byte {base d:List Nat} {to:Nat} (hb:Sha.Byte base) (hd:Sha.Byte d):∀ (l:List Dl.Ev) (out t:List Nat),Dl.runE base d to l out=.ok t→Sha.Byte out→out.length≤to→Sha.Byte t∧t.length≤to
 | [],out,t,h,ho,hl=>by
  unfold Dl.runE at h
  split at h
  ·cases h
  ·cases h;exact ⟨ho,hl⟩
 | .bad s::r,out,t,h,ho,hl=>by cases h
 | .copy n f::r,out,t,h,ho,hl=>by
  unfold Dl.runE at h
  split at h
  ·cases h
  ·split at h
   ·cases h
   ·exact runE_byte hb hd r _ t h (byte_app ho (byte_take (byte_drop hb _) _)) (by rw [List.length_append,List.length_take];omega)
 | .fresh n p::r,out,t,h,ho,hl=>by
  unfold Dl.runE at h
  split at h
  ·cases h
  ·exact runE_byte hb hd r _ t h (byte_app ho (byte_take (byte_drop hd _) _)) (by rw [List.length_append,List.length_take];omega)
theorem applyP_byte {base d t:List Nat} (hb:Sha.Byte base) (hd:Sha.Byte d) (h:Dl.applyP base d=.ok t):Sha.Byte t∧t.length≤300:=by
 unfold Dl.applyP at h
 split at h
 ·cases h
 ·split at h
  ·cases h
  ·split at h
   ·cases h
   ·obtain ⟨h1,h2⟩:=runE_byte hb hd _ _ _ h byte_nil (Nat.zero_le _)
    exact ⟨h1,by omega⟩
theorem text_byte {ys:List Nat} {q:List Nat×List Nat} (hy:Sha.Byte ys) (h:Pk.text ys=some q):Sha.Byte q.1∧Sha.Byte q.2:=by
 unfold Pk.text at h
 split at h
 ·cases h
 ·split at h
  ·cases h
  ·cases h
   exact ⟨byte_take (byte_drop hy _) _,byte_drop hy _⟩
theorem told_byte {out kn:List Pk.Item} {xs:List Nat} {q:Pk.Item×List Nat} (hx:Sha.Byte xs) (_ho:∀ p∈out,Sha.Byte p.1) (_hk:∀ p∈kn,Sha.Byte p.1) (h:Pk.told out kn xs=.ok q):Sha.Byte q.2:=by
 obtain _ | ⟨k,ys⟩:=xs
 ·cases h
 ·have hy:Sha.Byte ys:=fun i=>by simpa using hx (i+1)
  rw [Pk.told_cons] at h
  split at h
  ·split at h
   ·cases h
   ·rename_i r hr
    cases h
    exact (text_byte hy hr).2
  ·split at h
   ·split at h
    ·cases h
    ·split at h
     ·cases h
     ·rename_i r hr
      split at h
      ·cases h
      ·split at h
       ·cases h
       ·split at h
        ·cases h
        ·cases h
         exact (text_byte (byte_drop hy _) hr).2
   ·cases h
theorem Pk.bse_mem {out kn:List Pk.It} {id:List Nat} {p:Pk.It} (h:Pk.bse out kn id=some p):p∈out∨p∈kn:=by
 unfold Pk.bse at h
 cases hf:Pk.fnd out id with
 | some q=>rw [hf] at h;cases h;exact Or.inl (Pk.fnd_mem hf).1
 | none=>rw [hf] at h;exact Or.inr (Pk.fnd_mem h).1
theorem RdS.held {w0 w:World} {i r g mb bB bK:Nat} {out kn:List Pk.It} (h:RdS w0 w i r g mb bB bK out kn) (h0:Below w0.heap.size w0 w) {id:List Nat} {p:Pk.It} (hp:Pk.bse out kn id=some p):Rd w p.val p.text∧Sha.Byte p.text:=by
 rcases Pk.bse_mem hp with hp | hp
 ·exact h.outs p hp
 ·exact ⟨(h.kn_.rd p hp).1.below h0 (Nat.le_refl _),(h.kn_.rd p hp).2.1⟩
theorem base_any {w0 w:World} {i r g mb bB bK:Nat} {out kn:List Pk.It} {xs:List Nat} (id:List Nat) (a:Nat→Addr) (h:RdS w0 w i r g mb bB bK out kn) (hi:InAt w0 w i r xs) (ht:Tabs w0) (hS:KSents w0 a) (hid:Id32 id) :
  Calls Tryz.prog 81 #[.pointer (some ⟨g,0,none⟩),.agg (u8s id)] w fun e w'=>match Pk.bse out kn id with
   | none=>Ends w r bB (ev (a 8)) e w'
   | some p=>e=.returned p.v∧ByS w' bB kn∧Kpt (fun x=>x=bB) w w':=by
 unfold Pk.bse
 cases hf:Pk.fnd out id with
 | some p=>exact (base_has id p h hid hf).mono fun e w' ⟨he,hb⟩=>⟨he,h.by_.next hb,Kpt.of_below hb⟩
 | none=>
  cases hk:Pk.fnd kn id with
  | some p=>exact base_known id h hi ht hid hf p hk
  | none=>exact base_none id h hi ht hid hf hk (a 8) (hS 8 (by omega)).var
def ObjPost (w0 w:World) (i r g mb bB bK:Nat) (out kn:List Pk.It) (a:Nat→Addr) (xs:List Nat) (e:Ending) (w':World):Prop:=
 match Pk.told (out.map Pk.It.item) (kn.map Pk.It.item) xs with
 | .bad c=>Ends w r bB (ecode a c) e w'
 | .ok q=>∃ A c,e=.returned (.tuple #[.slice A q.1.1.length c,.int .i64 (q.1.2:Nat)])∧(Rd w' (.slice A q.1.1.length c) q.1.1∧NewAt w.heap.size A q.1.1.length)∧Sha.Byte q.1.1∧q.1.1.length≤65535∧InAt w0 w' i r q.2∧RdS w0 w' i r g mb bB bK out kn∧Kpt (fun x=>x=r∨x=bB) w w'
set_option maxHeartbeats 4000000 in
theorem obj_nil {w0 w:World} {i r g mb bB bK:Nat} {out kn:List Pk.It} (a:Nat→Addr) (h:RdS w0 w i r g mb bB bK out kn) (hi:InAt w0 w i r []) (_ht:Tabs w0) (hS:KSents w0 a) :
  Calls Tryz.prog 65 #[.pointer (some ⟨g,0,none⟩)] w (Ends w r bB (ev (a 1))):=by
 have p0:w.cell? ⟨g,0,none⟩=some (.pointer (some ⟨i,0,none⟩)):=h.g_.cell 0
 have CN:=ibyte_short i r (a 1) w0 w hi (hS 1 (by omega)).var
 clear h hi _ht hS
 go_enter Tryz.func65,Tryz.ntmps65
 go_wp2_with (go_at_call 41;refine CN.mono ?_;rintro e w1 hF;have HE:=Ends.of (bB:=bB) hF (Kpt.of_below (Below.refl _ w));obtain ⟨rfl,_,_⟩:=hF)
 exact ⟨rfl,HE⟩
set_option maxHeartbeats 4000000 in
theorem obj_kind {w0 w:World} {i r g mb bB bK:Nat} {out kn:List Pk.It} (a:Nat→Addr) (k:Nat) (ys:List Nat) (hb:Sha.Byte (k::ys)) (h0:k≠0) (h1:k≠1) (h:RdS w0 w i r g mb bB bK out kn) (hi:InAt w0 w i r (k::ys)) (ht:Tabs w0) (hS:KSents w0 a) :
  Calls Tryz.prog 65 #[.pointer (some ⟨g,0,none⟩)] w (Ends w r bB (ev (a 6))):=by
 have g0:((k:Int) == 0)=false:=by simp;omega
 have g1:((k:Int) == 1)=false:=by simp;omega
 clear h0 h1
 have p0:w.cell? ⟨g,0,none⟩=some (.pointer (some ⟨i,0,none⟩)):=h.g_.cell 0
 have HBY:=Lib.hid (show Sha.Byte ys from fun i=>by simpa using hb (i+1))
 have CN:=ibyte_ok i r k ys w0 w hi (oc_bytes hb)
 have HH:=Lib.hid h
 have HIN:=Lib.hid hi
 have HS:=Lib.hid hS
 have HT:=Lib.hid ht
 clear h hi ht hS hb
 go_enter Tryz.func65,Tryz.ntmps65
 go_wp2_with (go_at_call 41;refine pause ?_)
 unfold Paused
 refine CN.mono ?_
 rintro e w1 ⟨rfl,hi1,hg1⟩
 have HR1:=Lib.hid (HH.out.read HIN.out hg1)
 have HI1:=Lib.hid hi1
 have HK1:Hid (Kpt (fun x=>x=r∨x=bB) w w1):=Lib.hid (kpt_r hg1)
 have p1:w1.cell? ⟨g,0,none⟩=some (.pointer (some ⟨i,0,none⟩)):=HR1.out.g_.cell 0
 clear hi1 hg1 CN p0
 have hm:Tryz.prog.follows .mixedOrders=true:=by kernel_rfl
 have p4:w1.cell? ⟨8,0,none⟩=some (ev (a 6)):=(HI1.out.bel.1.cell (block_lt_of_cell (HS.out 6 (by omega)).var)).trans (HS.out 6 (by omega)).var
 obtain ⟨vr,hvr,_⟩:=HI1.out
 have CE:=fail_any i r vr (a 6) w1.drew ⟨hvr.i_.drew,hvr.r_.drew,hvr.ne⟩
 clear hvr
 go_wp2
 refine wp_region_held (S:=fun w'=>w'=w1.drew) hm ?_
 change wpAnyH _ _ _ _ _ _ _ _ w1.drew
 refine wpAnyH_take (i:=0) (v:=?_) rfl (by kernel_rfl) (by kernel_rfl) (by kernel_rfl) (fun _ _ _ h=>h) (Or.inl ⟨by rfl,?_⟩) rfl ?_
 rotate_left
 ·rintro w' rfl;go_simp;with_reducible rfl
 try simp only [Act.put,List.getElem_toArray,List.getElem_cons_zero,List.setIfInBounds_toArray,List.set_cons_zero,List.set_cons_succ]
 refine wpAnyH_take (i:=1) (v:=?_) rfl (by kernel_rfl) (by kernel_rfl) (by kernel_rfl) (fun _ _ _ h=>h) (Or.inl ⟨by rfl,?_⟩) rfl ?_
 rotate_left
 ·rintro w' rfl;go_simp;with_reducible rfl
 try simp only [Act.put,List.getElem_toArray,List.getElem_cons_zero,List.getElem_cons_succ,List.setIfInBounds_toArray,List.set_cons_zero,List.set_cons_succ]
 refine wpAnyH_take (i:=2) (v:=?_) rfl (by kernel_rfl) (by kernel_rfl) (by kernel_rfl) (fun _ _ _ h=>h) (Or.inl ⟨by rfl,?_⟩) rfl ?_
 rotate_left
 ·rintro w' rfl;go_simp;with_reducible rfl
 try simp only [Act.put,List.getElem_toArray,List.getElem_cons_zero,List.getElem_cons_succ,List.setIfInBounds_toArray,List.set_cons_zero,List.set_cons_succ]
 refine wpAnyH_take (i:=3) (v:=?_) rfl (by kernel_rfl) (by kernel_rfl) (by kernel_rfl) (fun _ _ _ h=>h) (Or.inl ⟨by rfl,?_⟩) rfl ?_
 rotate_left
 ·rintro w' rfl;go_simp;with_reducible rfl
 try simp only [Act.put,List.getElem_toArray,List.getElem_cons_zero,List.getElem_cons_succ,List.setIfInBounds_toArray,List.set_cons_zero,List.set_cons_succ]
 refine wpAnyH_take (i:=4) (v:=?_) rfl (by kernel_rfl) (by kernel_rfl) (by kernel_rfl) (fun _ _ _ h=>h) (Or.inl ⟨by rfl,?_⟩) rfl ?_
 rotate_left
 ·rintro w' rfl;go_simp;with_reducible rfl
 try simp only [Act.put,List.getElem_toArray,List.getElem_cons_zero,List.getElem_cons_succ,List.setIfInBounds_toArray,List.set_cons_zero,List.set_cons_succ]
 refine all_one (i:=5) (by kernel_rfl) rfl (by rfl) (fun K hK=>?_)
 go_simp
 refine CE.mono ?_
 rintro e w9 hF
 have HE:=Ends.of (bB:=bB) hF (HK1.out.trans (Kpt.of_below (below_drewN (Below.refl _ w1) 1)))
 obtain ⟨rfl,hd,hg⟩:=hF
 exact ⟨rfl,HE⟩
def SelfPost (w0 w:World) (i r g mb bB bK:Nat) (out kn:List Pk.It) (a:Nat→Addr) (ys:List Nat) (e:Ending) (w':World):Prop:=match Pk.text ys with
 | none=>Ends w r bB (ev (a 1)) e w'
 | some q=>∃ A c,e=.returned (.tuple #[.slice A q.1.length c,.int .i64 0])∧(Rd w' (.slice A q.1.length c) q.1∧NewAt w.heap.size A q.1.length)∧InAt w0 w' i r q.2∧RdS w0 w' i r g mb bB bK out kn∧Kpt (fun x=>x=r∨x=bB) w w'
set_option maxHeartbeats 4000000 in
theorem obj_self {w0 w:World} {i r g mb bB bK:Nat} {out kn:List Pk.It} (a:Nat→Addr) (ys:List Nat) (hb:Sha.Byte (0::ys)) (h:RdS w0 w i r g mb bB bK out kn) (hi:InAt w0 w i r (0::ys)) (ht:Tabs w0) (hS:KSents w0 a) :
  Calls Tryz.prog 65 #[.pointer (some ⟨g,0,none⟩)] w (SelfPost w0 w i r g mb bB bK out kn a ys):=by
 have p0:w.cell? ⟨g,0,none⟩=some (.pointer (some ⟨i,0,none⟩)):=h.g_.cell 0
 have HBY:=Lib.hid (show Sha.Byte ys from fun i=>by simpa using hb (i+1))
 have CN:=ibyte_ok i r 0 ys w0 w hi (oc_bytes hb)
 have HH:=Lib.hid h
 have HIN:=Lib.hid hi
 have HS:=Lib.hid hS
 have HT:=Lib.hid ht
 clear h hi ht hS hb
 go_enter Tryz.func65,Tryz.ntmps65
 go_wp2_with (go_at_call 41;refine pause ?_)
 unfold Paused
 refine CN.mono ?_
 rintro e w1 ⟨rfl,hi1,hg1⟩
 have HR1:=Lib.hid (HH.out.read HIN.out hg1)
 have HI1:=Lib.hid hi1
 have HK1:Hid (Kpt (fun x=>x=r∨x=bB) w w1):=Lib.hid (kpt_r hg1)
 have p1:w1.cell? ⟨g,0,none⟩=some (.pointer (some ⟨i,0,none⟩)):=HR1.out.g_.cell 0
 clear hi1 hg1 CN p0
 have CT:=itext_any a HI1.out HBY.out (HS.out 1 (by omega)).var
 cases hq:Pk.text ys with
 | none=>
  rw [hq] at CT
  simp only at CT
  have HQ:=Lib.hid hq
  clear hq
  go_wp2_with (go_at_call 79;refine CT.mono ?_;rintro e w2 hF;have HE:=Ends.of (bB:=bB) hF HK1.out;obtain ⟨rfl,_,_⟩:=hF)
  exact ⟨rfl,by unfold SelfPost;rw [HQ.out];exact HE⟩
 | some q=>
  rw [hq] at CT
  simp only at CT
  have HQ:=Lib.hid hq
  obtain ⟨tx,rest⟩:=q
  clear hq
  go_wp2_with (go_at_call 79;refine pause ?_)
  unfold Paused
  refine CT.mono ?_
  rintro e w2 ⟨A2,c2,rfl,hr2,hi2,hg2⟩
  have HE:Hid ((Rd w2 (.slice A2 tx.length c2) tx∧NewAt w.heap.size A2 tx.length)∧InAt w0 w2 i r rest∧RdS w0 w2 i r g mb bB bK out kn∧Kpt (fun x=>x=r∨x=bB) w w2):=Lib.hid ⟨⟨hr2.1,hr2.2.mono HK1.out.size⟩,hi2,HR1.out.read HI1.out hg2,HK1.out.trans (kpt_r hg2)⟩
  clear hr2 hi2 hg2 CT
  go_wp2
  go_ret2
  unfold SelfPost
  rw [HQ.out]
  exact ⟨A2,c2,rfl,HE.out⟩
theorem itemC_at (id:List Nat) (h:Id32 id) (v:Value) (d:Nat):(itemC id v d).toArray[32]? = some v∧(itemC id v d).toArray[33]? = some (.int .i64 (d:Int)):=by
 unfold itemC
 rw [List.getElem?_toArray,List.getElem?_toArray,List.getElem?_append_right (by rw [cellsB_len,h.1];exact Nat.le_refl _),List.getElem?_append_right (by rw [cellsB_len,h.1];omega),cellsB_len,h.1]
 exact ⟨rfl,rfl⟩
theorem byte_id {ys:List Nat} (h:Sha.Byte ys) (hl:32≤ys.length):Id32 (ys.take 32):=⟨by rw [List.length_take];omega,byte_take h 32⟩
set_option maxHeartbeats 4000000 in
theorem obj_delta {w0 w:World} {i r g mb bB bK:Nat} {out kn:List Pk.It} (a:Nat→Addr) (ys:List Nat) (hb:Sha.Byte (1::ys)) (hdep:∀ {id:List Nat} (p:Pk.It),Pk.bse out kn id=some p→p.depth≤1000000) (h:RdS w0 w i r g mb bB bK out kn) (hi:InAt w0 w i r (1::ys)) (ht:Tabs w0) (hS:KSents w0 a) :
  Calls Tryz.prog 65 #[.pointer (some ⟨g,0,none⟩)] w (ObjPost w0 w i r g mb bB bK out kn a (1::ys)):=by
 have hTD:=Pk.told_cons (out.map Pk.It.item) (kn.map Pk.It.item) 1 ys
 rw [if_neg (by omega),if_pos rfl] at hTD
 have HTD:=Lib.hid hTD
 clear hTD
 have p0:w.cell? ⟨g,0,none⟩=some (.pointer (some ⟨i,0,none⟩)):=h.g_.cell 0
 have HBY:=Lib.hid (show Sha.Byte ys from fun i=>by simpa using hb (i+1))
 have CN:=ibyte_ok i r 1 ys w0 w hi (oc_bytes hb)
 have HH:=Lib.hid h
 have HIN:=Lib.hid hi
 have HS:=Lib.hid hS
 have HT:=Lib.hid ht
 clear h hi ht hS hb
 go_enter Tryz.func65,Tryz.ntmps65
 go_wp2_with (go_at_call 41;refine pause ?_)
 unfold Paused
 refine CN.mono ?_
 rintro e w1 ⟨rfl,hi1,hg1⟩
 have HR1:=Lib.hid (HH.out.read HIN.out hg1)
 have HI1:=Lib.hid hi1
 have HK1:Hid (Kpt (fun x=>x=r∨x=bB) w w1):=Lib.hid (kpt_r hg1)
 have p1:w1.cell? ⟨g,0,none⟩=some (.pointer (some ⟨i,0,none⟩)):=HR1.out.g_.cell 0
 clear hi1 hg1 CN p0
 by_cases hl:ys.length < 32
 ·have hTD:=HTD.out
  rw [if_pos hl] at hTD
  have HTD2:=Lib.hid hTD
  have CO:=oid_short i r (a 1) ys w0 w1 HI1.out hl ((HI1.out.bel.1.cell (block_lt_of_cell (HS.out 1 (by omega)).var)).trans (HS.out 1 (by omega)).var)
  clear hTD hl
  go_wp2_with (go_at_call 80;refine CO.mono ?_;rintro e w2 hF;have HE:=Ends.of (bB:=bB) hF HK1.out;obtain ⟨rfl,_,_⟩:=hF)
  exact ⟨rfl,by unfold ObjPost;rw [HTD2.out];exact HE⟩
 have hTD:=HTD.out
 rw [if_neg hl] at hTD
 have CO:=oid_ok i r ys w0 w1 HI1.out (by omega)
 have HID:=Lib.hid (byte_id HBY.out (by omega))
 have HBD:=Lib.hid (byte_drop HBY.out 32)
 generalize ys.take 32=id at hTD CO HID
 generalize ys.drop 32=zs at hTD CO HBD
 clear hl
 go_wp2_with (go_at_call 80;refine pause ?_)
 unfold Paused
 refine CO.mono ?_
 rintro e w2 ⟨rfl,hi2,hg2⟩
 have hR2:=HR1.out.read HI1.out hg2
 have hK2:=HK1.out.trans (kpt_r (bB:=bB) hg2)
 clear hg2 CO
 go_wp2_with (with_reducible (show wpList _ _ _ (Oper.mk _ (Op.store 42 _ _) _ _ _ _::_) _ _);refine pause ?_)
 unfold Paused
 change wpList _ _ _ _ _ (w2.alloc (.cells (u8s (List.replicate 32 0)) 42))
 refine wpList_store_row (by rfl) 42 (.tmp 4) (.tmp 27) (by rfl) w2.heap.size (u8s id) (by rfl) (by rfl) 42 (u8s (List.replicate 32 0)) (Blk.new w2 _ _) (by rw [u8s_size,HID.out.1];exact oid_load) (by rw [u8s_size,u8s_size,HID.out.1];rfl) (u8s_one _) ?_
 have b3:Below w2.heap.size w2 ((w2.alloc (.cells (u8s (List.replicate 32 0)) 42)).setRow w2.heap.size (u8s id)):=below_row ((Below.refl _ _).alloc (Nat.le_refl _) _) (Nat.le_refl _) _
 have HO3:Hid (Blk ((w2.alloc (.cells (u8s (List.replicate 32 0)) 42)).setRow w2.heap.size (u8s id)) w2.heap.size 42 (u8s id)):=Lib.hid ((Blk.new w2 _ _).row _)
 have HR3:=Lib.hid (hR2.below b3)
 have HI3:=Lib.hid (hi2.below b3)
 have HK3:=Lib.hid (hK2.trans (Kpt.of_below (S:=fun x=>x=r∨x=bB) b3))
 have HGO:Hid (bB < w2.heap.size∧r < w2.heap.size):=Lib.hid ⟨by have h1:=hR2.g_.lt;have h2:=hR2.ord;omega,hi2.lt⟩
 generalize (w2.alloc (.cells (u8s (List.replicate 32 0)) 42)).setRow w2.heap.size (u8s id)=w3 at HO3 HR3 HI3 HK3 ⊢
 clear b3 hR2 hi2 hK2 p1
 generalize w2.heap.size=g4 at HO3 HGO ⊢
 clear w2
 simp only [Act.put]
 have p3:w3.cell? ⟨g,0,none⟩=some (.pointer (some ⟨i,0,none⟩)):=HR3.out.g_.cell 0
 have CT:=itext_any a HI3.out HBD.out (HS.out 1 (by omega)).var
 cases hq:Pk.text zs with
 | none=>
  rw [hq] at CT hTD
  simp only at CT hTD
  have HTD2:=Lib.hid hTD
  clear hq hTD
  go_wp2_with (go_at_call 79;refine CT.mono ?_;rintro e w4 hF;have HE:=Ends.of (bB:=bB) hF HK3.out;obtain ⟨rfl,_,_⟩:=hF)
  exact ⟨rfl,by unfold ObjPost;rw [HTD2.out];exact HE⟩
 | some q=>
  rw [hq] at CT hTD
  simp only at CT hTD
  have HBQ:=Lib.hid (text_byte HBD.out hq)
  obtain ⟨d,rest⟩:=q
  clear hq
  go_wp2_with (go_at_call 79;refine pause ?_)
  unfold Paused
  refine CT.mono ?_
  rintro e w4 ⟨A5,c5,rfl,hr4,hi4,hg4⟩
  have HD4:=Lib.hid hr4.1
  have HI4:=Lib.hid hi4
  have HR4:=Lib.hid (HR3.out.read HI3.out hg4)
  have HK4:=Lib.hid (HK3.out.trans (kpt_r (bB:=bB) hg4))
  have HO4:=Lib.hid (HO3.out.grown hg4 (fun e=>by injection e with e;have:=HGO.out;omega))
  clear hr4 hi4 hg4 CT p3
  go_wp2_with (with_reducible (show wpList _ _ _ (Oper.mk _ (Op.load 42 _) _ _ _ _::_) _ _);refine pause ?_)
  unfold Paused
  refine wpList_row_w (by rfl) 42 (.tmp 4) (by rfl) g4 (by rfl) 42 (u8s id) _ HO4.out Tryz.underlying42 (by rfl) (by rw [u8s_size,HID.out.1];exact oid_load) ?_
  have CB:=base_any id a HR4.out HI4.out HT.out HS.out HID.out
  rw [←Pk.bse_item] at hTD
  cases hp:Pk.bse out kn id with
  | none=>
   rw [hp] at CB hTD
   simp only [Option.map_none] at CB hTD
   have HTD2:=Lib.hid hTD
   clear hp hTD
   go_wp2_with (go_at_call 81;refine CB.mono ?_;rintro e w5 hF;have HE:=Ends.from_ hF HK4.out;obtain ⟨rfl,_,_⟩:=hF)
   exact ⟨rfl,by unfold ObjPost;rw [HTD2.out];exact HE⟩
  | some p=>
   rw [hp] at CB hTD
   simp only [Option.map_some] at CB hTD
   obtain ⟨hpr,hpb⟩:=HR4.out.held HI4.out.bel.1 hp
   obtain ⟨Ab,cb,hpv⟩:∃ Ab cb,p.val=.slice Ab p.text.length cb:=by obtain ⟨Ab,cb,h,_⟩:=hpr;exact ⟨Ab,cb,h⟩
   have HPB:=Lib.hid hpb
   have hat:=itemC_at (Sha.sum p.text) (sum_id _) p.val p.depth
   have hpV:p.v=.agg (itemC (Sha.sum p.text) p.val p.depth).toArray:=rfl
   have HC4:Hid ((itemC (Sha.sum p.text) p.val p.depth).toArray.size=34):=Lib.hid (by rw [List.size_toArray,itemC_len (sum_id _)])
   have HC5:Hid ((itemC (Sha.sum p.text) p.val p.depth).toArray.all (·.oneCell')=true):=Lib.hid (itemC_one (by rw [hpv];rfl) _)
   generalize (itemC (Sha.sum p.text) p.val p.depth).toArray=cp at hat hpV HC4 HC5
   rw [hpV] at CB
   rw [hpv] at hpr hat
   have HPR:=Lib.hid hpr
   have HAT:=Lib.hid hat
   have hTD':Pk.told (out.map Pk.It.item) (kn.map Pk.It.item) (1::ys)=(if 5≤p.depth then .bad 8 else match Dl.applyP p.text d with
    | .err c=>.bad (c+1)
    | .ok t=>.ok ((t,p.depth+1),rest)):=hTD
   have hpp:=HR4.out.held HI4.out.bel.1 hp
   have HP5:Hid (p.depth≤1000000):=Lib.hid (hdep p hp)
   generalize p.depth=dp at hTD' HAT HP5
   generalize p.text=ptx at hTD' HAT HPR HPB
   clear hp hpr hpb hpv hat hpV hTD hpp
   go_wp2_with (go_at_call 81;refine pause ?_)
   unfold Paused
   refine CB.mono ?_
   rintro e w5 ⟨rfl,hy5,hk5⟩
   have HR5:=Lib.hid (HR4.out.found hy5 hk5)
   have HI5:=Lib.hid (HI4.out.kpt hk5 (by have:=HR4.out.ord;omega) (by have:=HR4.out.ord;omega) (fun x hx=>by have h1:=HI4.out.bel.2;have h2:=HR4.out.ord;omega))
   have HD5:=Lib.hid (rd_kpt HD4.out hk5 (fun x hx=>by subst hx;exact noU_by HR4.out.by_))
   have HP5':=Lib.hid (rd_kpt HPR.out hk5 (fun x hx=>by subst hx;exact noU_by HR4.out.by_))
   have HK5:=Lib.hid (HK4.out.trans (kpt_b (r:=r) hk5))
   clear hy5 hk5 CB
   go_wp2_with (with_reducible (show wpList _ _ _ (Oper.mk _ (Op.store 44 _ _) _ _ _ _::_) _ _);refine pause ?_)
   unfold Paused
   change wpList _ _ _ _ _ (w5.alloc (.cells (itemC zid nilV 0).toArray 44))
   refine wpList_store_row (by rfl) 44 (.tmp 6) (.tmp 35) (by rfl) w5.heap.size cp (by rfl) (by rfl) 44 (itemC zid nilV 0).toArray (Blk.new w5 _ _) (by rw [HC4.out];exact item_size) (by rw [HC4.out];rfl) HC5.out ?_
   have b6:Below w5.heap.size w5 ((w5.alloc (.cells (itemC zid nilV 0).toArray 44)).setRow w5.heap.size cp):=below_row ((Below.refl _ _).alloc (Nat.le_refl _) _) (Nat.le_refl _) _
   have hX6:Blk ((w5.alloc (.cells (itemC zid nilV 0).toArray 44)).setRow w5.heap.size cp) w5.heap.size 44 cp:=(Blk.new w5 _ _).row _
   have HR6:=Lib.hid (HR5.out.below b6)
   have HI6:=Lib.hid (HI5.out.below b6)
   have HD6:=Lib.hid (HD5.out.below b6 (Nat.le_refl _))
   have HP6:=Lib.hid (HP5'.out.below b6 (Nat.le_refl _))
   have HK6:=Lib.hid (HK5.out.trans (Kpt.of_below (S:=fun x=>x=r∨x=bB) b6))
   generalize (w5.alloc (.cells (itemC zid nilV 0).toArray 44)).setRow w5.heap.size cp=w6 at hX6 HR6 HI6 HD6 HP6 HK6 ⊢
   clear b6
   generalize w5.heap.size=g6 at hX6 ⊢
   simp only [Act.put]
   have p32:w6.cell? ⟨g6,32,none⟩=some (.slice Ab ptx.length cb):=(hX6.cell 32).trans HAT.out.1
   have p33:w6.cell? ⟨g6,33,none⟩=some (.int .i64 (dp:Int)):=(hX6.cell 33).trans HAT.out.2
   have HX6:=Lib.hid hX6
   have p6:w6.cell? ⟨g,0,none⟩=some (.pointer (some ⟨i,0,none⟩)):=HR6.out.g_.cell 0
   clear hX6
   by_cases h5:5≤dp
   ·rw [if_pos h5] at hTD'
    have HTD2:=Lib.hid hTD'
    have g5:(5:Int)≤(dp:Int):=by omega
    have hm:Tryz.prog.follows .mixedOrders=true:=by kernel_rfl
    have p4:w6.cell? ⟨9,0,none⟩=some (ev (a 7)):=(HI6.out.bel.1.cell (block_lt_of_cell (HS.out 7 (by omega)).var)).trans (HS.out 7 (by omega)).var
    obtain ⟨vr,hvr,_⟩:=HI6.out
    have CE:=fail_any i r vr (a 7) w6.drew ⟨hvr.i_.drew,hvr.r_.drew,hvr.ne⟩
    clear hvr hTD' h5
    go_wp2
    refine wp_region_held (S:=fun w'=>w'=w6.drew) hm ?_
    change wpAnyH _ _ _ _ _ _ _ _ w6.drew
    refine wpAnyH_take (i:=0) (v:=?_) rfl (by kernel_rfl) (by kernel_rfl) (by kernel_rfl) (fun _ _ _ h=>h) (Or.inl ⟨by rfl,?_⟩) rfl ?_
    rotate_left
    ·rintro w' rfl;go_simp;with_reducible rfl
    try simp only [Act.put,List.getElem_toArray,List.getElem_cons_zero,List.setIfInBounds_toArray,List.set_cons_zero,List.set_cons_succ]
    refine wpAnyH_take (i:=1) (v:=?_) rfl (by kernel_rfl) (by kernel_rfl) (by kernel_rfl) (fun _ _ _ h=>h) (Or.inl ⟨by rfl,?_⟩) rfl ?_
    rotate_left
    ·rintro w' rfl;go_simp;with_reducible rfl
    try simp only [Act.put,List.getElem_toArray,List.getElem_cons_zero,List.getElem_cons_succ,List.setIfInBounds_toArray,List.set_cons_zero,List.set_cons_succ]
    refine wpAnyH_take (i:=2) (v:=?_) rfl (by kernel_rfl) (by kernel_rfl) (by kernel_rfl) (fun _ _ _ h=>h) (Or.inl ⟨by rfl,?_⟩) rfl ?_
    rotate_left
    ·rintro w' rfl;go_simp;with_reducible rfl
    try simp only [Act.put,List.getElem_toArray,List.getElem_cons_zero,List.getElem_cons_succ,List.setIfInBounds_toArray,List.set_cons_zero,List.set_cons_succ]
    refine wpAnyH_take (i:=3) (v:=?_) rfl (by kernel_rfl) (by kernel_rfl) (by kernel_rfl) (fun _ _ _ h=>h) (Or.inl ⟨by rfl,?_⟩) rfl ?_
    rotate_left
    ·rintro w' rfl;go_simp;with_reducible rfl
    try simp only [Act.put,List.getElem_toArray,List.getElem_cons_zero,List.getElem_cons_succ,List.setIfInBounds_toArray,List.set_cons_zero,List.set_cons_succ]
    refine wpAnyH_take (i:=4) (v:=?_) rfl (by kernel_rfl) (by kernel_rfl) (by kernel_rfl) (fun _ _ _ h=>h) (Or.inl ⟨by rfl,?_⟩) rfl ?_
    rotate_left
    ·rintro w' rfl;go_simp;with_reducible rfl
    try simp only [Act.put,List.getElem_toArray,List.getElem_cons_zero,List.getElem_cons_succ,List.setIfInBounds_toArray,List.set_cons_zero,List.set_cons_succ]
    refine all_one (i:=5) (by kernel_rfl) rfl (by rfl) (fun K hK=>?_)
    go_simp
    refine CE.mono ?_
    rintro e w9 hF
    have HE:=Ends.of (bB:=bB) hF (HK6.out.trans (Kpt.of_below (below_drewN (Below.refl _ w6) 1)))
    obtain ⟨rfl,hd,hg⟩:=hF
    exact ⟨rfl,by unfold ObjPost;rw [HTD2.out];exact HE⟩
   ·rw [if_neg h5] at hTD'
    have g5:¬(5:Int)≤(dp:Int):=by omega
    have g6':(dp:Int) < 5:=by omega
    have CA:=dapply Ab A5 ptx.length cb d.length c5 ptx d a w6 HP6.out HD6.out HBQ.out.1 (HS.out.below HI6.out.bel.1 (Nat.le_refl _)).a
    cases hap:Dl.applyP ptx d with
    | err c=>
     rw [hap] at CA hTD'
     simp only at hTD'
     have HTD2:=Lib.hid hTD'
     clear hap hTD' h5
     generalize ptx.length=nb at p32 CA
     generalize d.length=nd at CA ⊢
     go_wp2_with (go_at_call 82;refine CA.mono ?_;rintro e w7 ⟨rfl,hb7⟩;refine pause ?_)
     unfold Paused
     have HR7:=Lib.hid (HR6.out.below hb7)
     have HI7:=Lib.hid (HI6.out.below hb7)
     have HK7:=Lib.hid (HK6.out.trans (Kpt.of_below (S:=fun x=>x=r∨x=bB) hb7))
     have CH:=hold_err (a c) HR7.out HI7.out
     clear hb7 CA
     go_wp2_with (go_at_call 66;refine CH.mono ?_;rintro e w8 hF;have HE:=Ends.of (bB:=bB) hF HK7.out;obtain ⟨rfl,_,_⟩:=hF)
     exact ⟨rfl,by unfold ObjPost;rw [HTD2.out];exact HE⟩
    | ok tx=>
     have HTB:=Lib.hid (applyP_byte HPB.out HBQ.out.1 hap)
     rw [hap] at CA hTD'
     simp only at hTD'
     have HTD2:=Lib.hid hTD'
     clear hap hTD' h5
     generalize ptx.length=nb at p32 CA
     generalize d.length=nd at CA ⊢
     go_wp2_with (go_at_call 82;refine CA.mono ?_;rintro e w7 ⟨v7,rfl,hp7⟩;refine pause ?_)
     unfold Paused
     obtain ⟨A7,c7,rfl⟩:=hp7.len
     have HR7:=Lib.hid (HR6.out.below hp7.bel)
     have HI7:=Lib.hid (HI6.out.below hp7.bel)
     have HK7:=Lib.hid (HK6.out.trans (Kpt.of_below (S:=fun x=>x=r∨x=bB) hp7.bel))
     have HT7:=Lib.hid hp7.rd
     have HN7:Hid (NewAt w.heap.size A7 tx.length):=Lib.hid ((newAt_own hp7.own).mono HK6.out.size)
     have p73:w7.cell? ⟨g6,33,none⟩=some (.int .i64 (dp:Int)):=(hp7.bel.cell (p:=⟨g6,33,none⟩) HX6.out.lt).trans p33
     have CH:=hold_nil g w7
     clear hp7 CA p32 p33 p6
     go_wp2_with (go_at_call 66;refine CH.mono ?_;rintro e w8 ⟨rfl,rfl⟩;refine pause ?_)
     unfold Paused
     go_wp2
     go_quiet (fail)
     go_wp2
     have HE:Hid (ObjPost w0 w i r g mb bB bK out kn a (1::ys) (.returned (.tuple #[.slice A7 tx.length c7,.int .i64 ((dp+1:Nat):Int)])) (w8.drewN nq)):=Lib.hid (by
      unfold ObjPost
      rw [HTD2.out]
      exact ⟨A7,c7,rfl,⟨HT7.out.below (below_drewN (Below.refl _ w8) nq) (Nat.le_refl _),HN7.out⟩,HTB.out.1,by have:=HTB.out.2;simp only;omega,HI7.out.below (below_drewN (Below.refl _ w8) nq),HR7.out.below (below_drewN (Below.refl _ w8) nq),HK7.out.trans (Kpt.of_below (below_drewN (Below.refl _ w8) nq))⟩)
     go_ret2
     exact HE.out
end Go.Proofs.YtndgadjeeinedaaGreatDoor
