/- Fields written by the document's own words: the two shapes of a pack's items; texts up to a place. -/
import Derived.Test.YtndgadjeeinedaaGreatDoorMOb35s
import Derived.Test.YtndgadjeeinedaaGreatDoorMPk18s
import Derived.Test.YtndgadjeeinedaaGreatDoorMOb41s
namespace Go.Proofs.YtndgadjeeinedaaGreatDoor
open Go Go.RowKit
theorem rwrite_bt (B:Option Addr) (b cap:Nat) (A:Option Addr) (c:Nat) (t:List Nat) (w:World) (hb:Blk w b 59 #[.int .i64 0,.slice none 0 0,.int .i64 0,.slice A t.length c]) (hB:B=some ⟨b,0,none⟩) (hr:Rd w (.slice A t.length c) t) (ht:t.length≤1000) :
  Calls Tryz.prog 17 #[.string { data:=#[98,116] },.slice B 2 cap] w fun e w'=>∃ v,e=.returned (.tuple #[v,.int .i64 0])∧Pad w.heap.size w v (0::([t.length / 256,t.length % 256]++t)) w':=by
 have hF:FRow w b 0 [⟨0,none,0,0,[]⟩,⟨0,A,t.length,c,t⟩]:=by
  refine ⟨fun i hi=>?_,fun i hi=>?_,fun f hf=>?_,hb.lt⟩
  ·rcases i with _ | _ | i
   ·exact hb.cell 0
   ·exact hb.cell 2
   ·simp at hi;omega
  ·rcases i with _ | _ | i
   ·exact hb.cell 1
   ·exact hb.cell 3
   ·simp at hi;omega
  ·rcases List.mem_cons.1 hf with rfl | hf
   ·exact ⟨⟨none,0,rfl,Nat.le_refl _,fun h=>absurd h (by simp)⟩,rfl⟩
   ·rw [List.mem_singleton.1 hf]
    exact ⟨hr,rfl⟩
 refine (rwrite_any { data:=#[98,116] } B b 0 cap [⟨0,none,0,0,[]⟩,⟨0,A,t.length,c,t⟩] w (by decide) (fun _=>hB) hF (by simp) (fun f hf=>?_)).mono fun e w' h=>?_
 ·rcases List.mem_cons.1 hf with rfl | hf
  ·exact Nat.zero_le _
  ·rw [List.mem_singleton.1 hf]
   exact ht
 ·obtain ⟨v,he,hp⟩:=h.2.2.2 (by decide +kernel) rfl (fun i h1 h2 _=>by
   rcases i with _ | _ | i
   ·show Oc.fits 98 0 0=true
    decide +kernel
   ·show Oc.fits 116 0 t.length=true
    unfold Oc.fits
    rw [if_neg (by decide),if_pos rfl]
    simp
    omega
   ·simp at h2;omega)
  rw [show ({ data:=#[98,116] }:ByteArray).data.toList=[98,116] from rfl,encs_bt A c t (by omega)] at hp
  exact ⟨v,he,hp⟩
theorem rwrite_bot (B:Option Addr) (b cap:Nat) (A A2:Option Addr) (c c2:Nat) (s d:List Nat) (w:World) (hb:Blk w b 59 #[.int .i64 1,.slice none 0 0,.int .i64 0,.slice A s.length c,.int .i64 0,.slice A2 d.length c2]) (hB:B=some ⟨b,0,none⟩) (hs:Rd w (.slice A s.length c) s) (hsl:s.length=32) (hd:Rd w (.slice A2 d.length c2) d) (hdl:d.length≤1000) :
  Calls Tryz.prog 17 #[.string { data:=#[98,111,116] },.slice B 3 cap] w fun e w'=>∃ v,e=.returned (.tuple #[v,.int .i64 0])∧Pad w.heap.size w v ((1::s)++([d.length / 256,d.length % 256]++d)) w':=by
 have hF:FRow w b 0 [⟨1,none,0,0,[]⟩,⟨0,A,s.length,c,s⟩,⟨0,A2,d.length,c2,d⟩]:=by
  refine ⟨fun i hi=>?_,fun i hi=>?_,fun f hf=>?_,hb.lt⟩
  ·rcases i with _ | _ | _ | i
   ·exact hb.cell 0
   ·exact hb.cell 2
   ·exact hb.cell 4
   ·simp at hi;omega
  ·rcases i with _ | _ | _ | i
   ·exact hb.cell 1
   ·exact hb.cell 3
   ·exact hb.cell 5
   ·simp at hi;omega
  ·rcases List.mem_cons.1 hf with rfl | hf
   ·exact ⟨⟨none,0,rfl,Nat.le_refl _,fun h=>absurd h (by simp)⟩,rfl⟩
   ·rcases List.mem_cons.1 hf with rfl | hf
    ·exact ⟨hs,rfl⟩
    ·rw [List.mem_singleton.1 hf]
     exact ⟨hd,rfl⟩
 refine (rwrite_any { data:=#[98,111,116] } B b 0 cap [⟨1,none,0,0,[]⟩,⟨0,A,s.length,c,s⟩,⟨0,A2,d.length,c2,d⟩] w (by decide) (fun _=>hB) hF (by simp) (fun f hf=>?_)).mono fun e w' h=>?_
 ·rcases List.mem_cons.1 hf with rfl | hf
  ·exact Nat.zero_le _
  ·rcases List.mem_cons.1 hf with rfl | hf
   ·show s.length≤1000
    omega
   ·rw [List.mem_singleton.1 hf]
    exact hdl
 ·obtain ⟨v,he,hp⟩:=h.2.2.2 (by decide +kernel) rfl (fun i h1 h2 _=>by
   rcases i with _ | _ | _ | i
   ·show Oc.fits 98 1 0=true
    decide +kernel
   ·show Oc.fits 111 0 s.length=true
    unfold Oc.fits
    rw [if_pos rfl,hsl]
    rfl
   ·show Oc.fits 116 0 d.length=true
    unfold Oc.fits
    rw [if_neg (by decide),if_pos rfl]
    simp
    omega
   ·simp at h2;omega)
  rw [show ({ data:=#[98,111,116] }:ByteArray).data.toList=[98,111,116] from rfl,encs_bot A A2 c c2 s d (by omega)] at hp
  exact ⟨v,he,hp⟩
theorem Txts.upto {w:World} {A:Option Addr} {n c:Nat} {its:List Pk.It} (h:Txts w (.slice A n c) its) {k:Nat} (hk:k≤its.length):Txts w (.slice A k c) (its.take k):=by
 refine ⟨?_,fun p hp=>h.rd p (List.mem_of_mem_take hp)⟩
 obtain ⟨A',c',hv,hc,hA⟩:=h.row
 injection hv with e1 e2 e3
 subst e1 e3
 rw [List.length_map] at hc
 refine ⟨A,c,by rw [List.length_map,List.length_take,Nat.min_eq_left hk],by rw [List.length_map,List.length_take,Nat.min_eq_left hk];omega,fun h0=>?_⟩
 rw [List.length_map,List.length_take,Nat.min_eq_left hk] at h0
 obtain ⟨b,o,ha,hb,hx⟩:=hA (by rw [List.length_map];omega)
 refine ⟨b,o,ha,hb,fun i u hu=>hx i u ?_⟩
 rw [List.map_take,List.getElem?_take] at hu
 split at hu
 ·exact hu
 ·cases hu
theorem Txts.at_ {w:World} {A:Option Addr} {n c:Nat} {its:List Pk.It} (h:Txts w (.slice A n c) its) {k:Nat} (hk:k < its.length):∃ b o,A=some ⟨b,o,none⟩∧b < w.heap.size∧w.cell? ⟨b,o+k,none⟩=some its[k].val∧Rd w its[k].val its[k].text∧Sha.Byte its[k].text:=by
 obtain ⟨A',c',hv,hc,hA⟩:=h.row
 injection hv with e1 e2 e3
 subst e1
 obtain ⟨b,o,ha,hb,hx⟩:=hA (by rw [List.length_map];omega)
 obtain ⟨h1,h2⟩:=h.rd _ (List.getElem_mem hk)
 exact ⟨b,o,ha,hb,hx k _ (by rw [List.getElem?_map,List.getElem?_eq_getElem hk];rfl),h1,h2⟩
theorem takes_sliceHiT {ops:Array Oper} {S:World→Prop} {o:Oper} {a:Act} (x hi:Operand) (ho:o.op=.slice 22 x none (some hi) none) (hw:Region.wanted o (yielded ops a.tmps)=true) (v vh u:Value) (hx:a.eval x=v) (hh:a.eval hi=vh)
  (hS:∀ w,(Instr.slice 22 v none (some vh) none).run Tryz.prog w=.ok u w):YieldsIf Tryz.prog ops S o u a:=
 Or.inl ⟨hw,fun w _=>by
  have hk:(Instr.sliceAt 22 v none (some vh) none).run Tryz.prog w=.ok u w:=by rw [←hS w];simp [Instr.sliceAt,run_underlying Tryz.underlying22]
  unfold execOp
  simp [ho,hx,hh,hk]⟩
theorem fnd_isSome_texts (its:List Pk.It) (l:List Pk.Item) (h:its.map (·.text)=l.map (·.1)) (id:List Nat):(Pk.idx its id its.length).isSome=(Pk.find l id).isSome:=by
 rw [←fnd_isSome its id,Pk.find_texts (l':=l) (by rw [List.map_map];exact h)]
end Go.Proofs.YtndgadjeeinedaaGreatDoor
