/- Proved here: for all lists of objects that are not larger than the law asks: the pack of a row of objects, or the error, is what the document says; what is encoded is decoded as it was, none too deep: PackEncode answers true. No condition but the program's own: the listed variables are as their initialisers lay them. -/
import Derived.Test.YtndgadjeeinedaaGreatDoorMErrs
import Derived.Test.YtndgadjeeinedaaGreatDoorMDl16s
import Derived.Test.YtndgadjeeinedaaGreatDoorMPkNs
set_option maxRecDepth 100000
namespace Go.Proofs.YtndgadjeeinedaaGreatDoor.lawPackEncode
open Go Go.RowKit Go.WideShapes Go.ChangeShapes Go.ChangeAt
noncomputable def laidWorldP (os:Os):World:=
 let w0:=World.holding Tryz.prog os ⟨(stexts.map fun t=>Obj.cells #[.string ⟨t.toArray⟩] 218).toArray,#[],[]⟩
 { w0 with heap:=((([0,1,2,3,4,5,6,7,8,9,10,11,12,13,14,15,16,17,18,19,20,21]:List Nat).foldl (fun h k=>h.modify (sgs.getD k 0) (putCells #[ev ⟨lowE+k,0,none⟩])) w0.heap).modify 22 (putCells (u32s Sha.H0))).modify 24 (putCells (u32s Sha.K)) }
theorem some_of (W:World) (h:∀ k,k < 22→∃ a,SentAt W (sgs.getD k 0) (stexts.getD k []) a):∃ a,Sents W a:=by
 refine ⟨fun k=>if hk:k < 22 then Classical.choose (h k hk) else ⟨0,0,none⟩,fun k hk=>?_⟩
 simp only [hk,dif_pos]
 exact Classical.choose_spec (h k hk)
theorem txts_of {W:World} {v:Value} {vs:List Value} {ps:List (List Nat)} (h:RdL W v vs) (hl:ps.length=vs.length) (hr:∀ i u,vs[i]? = some u→Rd W u (ps.getD i [])) (hb:∀ x∈ps,Sha.Byte x):∃ its,Txts W v its∧∀ p∈its,p.depth=0:=by
 refine ⟨List.zipWith (fun u x=>(⟨x,0,u⟩:Pk.It)) vs ps,⟨?_,?_⟩,?_⟩
 ·rw [List.map_zipWith]
  have e:List.zipWith (fun (u:Value) (_:List Nat)=>u) vs ps=vs:=by
   apply List.ext_getElem
   ·simp [hl]
   ·intro i h1 h2
    simp
  exact (show List.zipWith (fun u x=>(⟨x,0,u⟩:Pk.It).val) vs ps=vs from e).symm▸h
 ·intro p hp
  obtain ⟨i,hi⟩:=List.mem_iff_getElem?.1 hp
  rw [List.getElem?_zipWith] at hi
  cases hu:vs[i]? with
  | none=>rw [hu] at hi;simp at hi
  | some u=>
   cases hx:ps[i]? with
   | none=>rw [hu,hx] at hi;simp at hi
   | some x=>
    rw [hu,hx] at hi
    obtain rfl:(⟨x,0,u⟩:Pk.It)=p:=by simpa using hi
    have h1:=hr i u hu
    rw [List.getD_eq_getElem?_getD,hx] at h1
    exact ⟨h1,hb x (List.mem_of_getElem? hx)⟩
 ·intro p hp
  obtain ⟨i,hi⟩:=List.mem_iff_getElem?.1 hp
  rw [List.getElem?_zipWith] at hi
  cases hu:vs[i]? with
  | none=>rw [hu] at hi;simp at hi
  | some u=>
   cases hx:ps[i]? with
   | none=>rw [hu,hx] at hi;simp at hi
   | some x=>
    rw [hu,hx] at hi
    obtain rfl:(⟨x,0,u⟩:Pk.It)=p:=by simpa using hi
    rfl
theorem contract (H:Type) (enc:TypeId×Value→H) (W:World) (base:Nat) (args:Array Value) (ds gs:List (DataW H)) (before:List MemPlace)
  (hval:∀ (j:Nat) t v,Tryz.f3.params[j]? = some t→args[j]? = some v→Value.okWide Tryz.prog W .any base t v)
  (hW:DataW.Whole enc Tryz.prog Tryz.f3.params.toList Rows.packEncodeSpec.vars false W args.toList ds gs before) (hL:laidMetH Tryz.prog Rows.packEncodeRow.laid W) (hsh:W.ShapedOpen Tryz.prog) :
  Calls Tryz.prog 3 args W fun e W'=>∃ v,e=.returned v∧Rows.packEncodeSpec.post enc Tryz.prog Tryz.f3 false true false false W args v W':=by
 have hW0:=hW
 obtain ⟨p,q,hA,hV,_,_,_⟩:=hW
 obtain ⟨rfl,rfl⟩:=trodVars_none hV
 rw [Tryz.params3] at hA hval
 have hmx:=MX.of_shape hsh
 clear hsh
 have hM:laidMet Tryz.prog Rows.packEncodeRow.laid W:=hL
 have s0:=sent_of W _ hM 0 "cartage/api.ErrRange" (stexts.getD 0 []) 2 rfl (by kernel_rfl) (by kernel_rfl)
 have s1:=sent_of W _ hM 1 "cartage/api.ErrShort" (stexts.getD 1 []) 3 rfl (by kernel_rfl) (by kernel_rfl)
 have s2:=sent_of W _ hM 2 "cartage/api.ErrLong" (stexts.getD 2 []) 4 rfl (by kernel_rfl) (by kernel_rfl)
 have s3:=sent_of W _ hM 3 "cartage/api.ErrForm" (stexts.getD 3 []) 5 rfl (by kernel_rfl) (by kernel_rfl)
 have s4:=sent_of W _ hM 4 "cartage/api.ErrSum" (stexts.getD 4 []) 6 rfl (by kernel_rfl) (by kernel_rfl)
 have s5:=sent_of W _ hM 5 "cartage/api.ErrName" (stexts.getD 5 []) 7 rfl (by kernel_rfl) (by kernel_rfl)
 have s6:=sent_of W _ hM 6 "cartage/api.ErrKind" (stexts.getD 6 []) 8 rfl (by kernel_rfl) (by kernel_rfl)
 have s7:=sent_of W _ hM 7 "cartage/api.ErrDepth" (stexts.getD 7 []) 9 rfl (by kernel_rfl) (by kernel_rfl)
 have s8:=sent_of W _ hM 8 "cartage/api.ErrMissing" (stexts.getD 8 []) 10 rfl (by kernel_rfl) (by kernel_rfl)
 have s9:=sent_of W _ hM 9 "cartage/api.ErrCas" (stexts.getD 9 []) 11 rfl (by kernel_rfl) (by kernel_rfl)
 have s10:=sent_of W _ hM 10 "cartage/api.ErrQuota" (stexts.getD 10 []) 12 rfl (by kernel_rfl) (by kernel_rfl)
 have s11:=sent_of W _ hM 11 "cartage/api.ErrQueue" (stexts.getD 11 []) 13 rfl (by kernel_rfl) (by kernel_rfl)
 have s12:=sent_of W _ hM 12 "cartage/api.ErrLarge" (stexts.getD 12 []) 1 rfl (by kernel_rfl) (by kernel_rfl)
 have s13:=sent_of W _ hM 13 "cartage/api.ErrNoRepo" (stexts.getD 13 []) 14 rfl (by kernel_rfl) (by kernel_rfl)
 have s14:=sent_of W _ hM 14 "cartage/api.ErrExists" (stexts.getD 14 []) 15 rfl (by kernel_rfl) (by kernel_rfl)
 have s15:=sent_of W _ hM 15 "cartage/api.ErrDown" (stexts.getD 15 []) 16 rfl (by kernel_rfl) (by kernel_rfl)
 have s16:=sent_of W _ hM 16 "cartage/api.ErrTimeout" (stexts.getD 16 []) 17 rfl (by kernel_rfl) (by kernel_rfl)
 have s17:=sent_of W _ hM 17 "cartage/api.ErrStale" (stexts.getD 17 []) 18 rfl (by kernel_rfl) (by kernel_rfl)
 have s18:=sent_of W _ hM 18 "cartage/api.ErrState" (stexts.getD 18 []) 19 rfl (by kernel_rfl) (by kernel_rfl)
 have s19:=sent_of W _ hM 19 "cartage/api.ErrDup" (stexts.getD 19 []) 20 rfl (by kernel_rfl) (by kernel_rfl)
 have s20:=sent_of W _ hM 20 "cartage/api.ErrNone" (stexts.getD 20 []) 21 rfl (by kernel_rfl) (by kernel_rfl)
 have s21:=sent_of W _ hM 21 "cartage/api.ErrFull" (stexts.getD 21 []) 0 rfl (by kernel_rfl) (by kernel_rfl)
 obtain ⟨sa,hsa⟩:=some_of W (fun k hk=>by
  rcases (show k=0∨k=1∨k=2∨k=3∨k=4∨k=5∨k=6∨k=7∨k=8∨k=9∨k=10∨k=11∨k=12∨k=13∨k=14∨k=15∨k=16∨k=17∨k=18∨k=19∨k=20∨k=21 from by omega) with rfl | rfl | rfl | rfl | rfl | rfl | rfl | rfl | rfl | rfl | rfl | rfl | rfl | rfl | rfl | rfl | rfl | rfl | rfl | rfl | rfl | rfl
  ·exact s0
  ·exact s1
  ·exact s2
  ·exact s3
  ·exact s4
  ·exact s5
  ·exact s6
  ·exact s7
  ·exact s8
  ·exact s9
  ·exact s10
  ·exact s11
  ·exact s12
  ·exact s13
  ·exact s14
  ·exact s15
  ·exact s16
  ·exact s17
  ·exact s18
  ·exact s19
  ·exact s20
  ·exact s21)
 have hTab:=tabs_of_laid (laidMet_drop 22 hM)
 clear hM hL
 obtain ⟨v1,d1,rfl,rfl,h2⟩:=trodAll_one hA
 obtain ⟨vs,ps,hy,hl,hr,hb,_,_⟩:=open_parts Tryz.underlying22 Tryz.underlying25 Tryz.underlying5 (by kernel_rfl) (by kernel_rfl) (hval 0 22 v1 rfl rfl) h2
 obtain ⟨its,hT,hd⟩:=txts_of hy hl hr hb
 obtain ⟨A2,c2,rfl,_,_⟩:=hy
 refine (pencode_law A2 _ c2 its sa W hT hTab hsa hmx).mono fun e W' ⟨he,hb⟩=>?_
 exact ⟨_,he,law_post (P:=Tryz.prog) laidOut mapsRowed_ slicesFull rfl (by kernel_rfl) Tryz.underlying4 (by rw [Tryz.params3];decide +kernel) ⟨rfl,rfl,rfl⟩ hW0 hb⟩
theorem laid_met (os:Os):laidMet Tryz.prog Rows.packEncodeRow.laid ((laidWorldP os).forCall (fun _ _=>0) ⟨#[],#[.slice none 0 0],[]⟩).memory:=
 laidMet_of_run3 8 (by kernel_rfl) (by kernel_rfl) (by kernel_rfl)
theorem reads (os:Os) {H:Type} (enc:TypeId×Value→H):∃ places,DataW.whole enc Tryz.prog ((laidWorldP os).forCall (fun _ _=>0) ⟨#[],#[.slice none 0 0],[]⟩).memory Tryz.f3.params.toList Rows.packEncodeSpec.vars false (#[.slice none 0 0]:Array Value).toList 8=some ([.nil],[],places):=
 ⟨[],by kernel_rfl⟩
theorem lifted (os:Os) (started:os.Started) (H:Type) (enc:TypeId×Value→H) (F:Stop.Interp) :
  ReturnsInHanded {} Tryz.checked os 3 .any ((OpenSpec.ofChange Rows.packEncodeSpec).preRow enc Tryz.prog Tryz.f3 Rows.packEncodeRow.domain false Rows.packEncodeRow.laid) (((OpenSpec.ofChange Rows.packEncodeSpec).at F).post enc Tryz.prog Tryz.f3 false true false false):=by
 obtain ⟨places,hx⟩:=reads os enc
 refine returnsInHanded_of_row (C:=Tryz.checked) (s:=OpenSpec.ofChange Rows.packEncodeSpec) own started (by kernel_rfl) Tryz.func3
  (witness_row_at (enc:=enc) (C:=Tryz.checked) false (laidWorldP os) #[.slice none 0 0] rfl (by kernel_rfl) (by kernel_rfl) (by kernel_rfl)
   (OpenSpec.preRow_of_cond 8 hx (by kernel_rfl) (fun k hk=>by cases hk) (by kernel_rfl) (laid_met os))) ?_
 intro W base args ds gs before hval hW _ _ _ hL hsh _
 exact contract H enc W base args ds gs before hval hW hL hsh
theorem said:Rows.PackEncodeSaid:=
 OpenClaim.holds_of_cond 3 Tryz.f3 rfl rfl rfl rfl rfl rfl rfl ⟨rfl,rfl,rfl,rfl,rfl⟩ rfl rfl rfl rfl rfl (by kernel_rfl) Tryz.func3 (by kernel_rfl)
  (of_decide_eq_true (by kernel_rfl)) (by unfold Func.isWrapper;first | (rw [if_pos (by decide +kernel)];kernel_rfl) | (rw [if_neg (by decide +kernel)];exact ⟨rfl,rfl⟩))
  (fun os started H enc _ F=>by rw [OpenClaim.pre_eq_preRow];exact lifted os started H enc F)
theorem plain (f:FuncId) (fn:Func) (hf:Tryz.pinned.checked.prog.funcNamed "cartage/cartagelaw08.PackEncode" = some f) (hfn:Tryz.pinned.checked.prog.funcs[f]? = some fn) :
  true=Tryz.pinned.checked.prog.looks []∧∀ (j:Nat) t,fn.params[j]? = some t→Tryz.pinned.checked.prog.wantsStandIn t=false:=by
 obtain rfl:f=3:=Option.some.inj ((show Tryz.prog.funcNamed "cartage/cartagelaw08.PackEncode" = some 3 by kernel_rfl).symm.trans hf) |>.symm
 obtain rfl:fn=Tryz.f3:=(Option.some.inj (Tryz.func3.symm.trans hfn)).symm
 refine ⟨by kernel_rfl,fun j t ht=>?_⟩
 rw [Tryz.params3] at ht
 rcases j with _ | j
 ·obtain rfl:=Option.some.inj ht;kernel_rfl
 ·simp at ht
theorem card:Rows.PackEncodeCardSaid:=
 Claim7.holds_tied_plain_at .later [] _ _ _ _ said (fun _ h=>by cases h) (by kernel_rfl) (fun _ h=>by cases h) packEncode_row_tie rfl ⟨rfl,rfl⟩ (by kernel_rfl) rfl plain (by kernel_rfl)
end Go.Proofs.YtndgadjeeinedaaGreatDoor.lawPackEncode
