import Derived.Test.YteaocagepfgfnaaGreatDoorPQRm
import Derived.Test.YteaocagepfgfnaaGreatDoorPStB
import Derived.Deep.CutBlock
import Derived.Deep.DeepCutAuto
import Derived.Deep.RegionLaw
import Derived.BigRegion
import Derived.Deep.MidRow
import Derived.Test.YteaocagepfgfnaaGreatDoorPJPt
import Derived.Maps.AppendAt
import Derived.Great.BuildSlice
import Derived.Laws.OwnMore
import Derived.Test.YteaocagepfgfnaaGreatDoorPAl
set_option maxRecDepth 100000
set_option maxHeartbeats 8000000
namespace Go.Proofs.YteaocagepfgfnaaGreatDoor
namespace St
open Go.RowKit Dk Gm Eqb Rm Di Vl Qv
open Vm (HasVol vM)
attribute [local go_sem] Pt.zvP Pt.zv3 zv29
attribute [local go_sem] Pt.zc3 zc29
variable {q:Qt}{X:Dst}{f:Nat→Int}{H:List Hd}
theorem tv_row{w w':World}{V:Pl}{b:Nat}{cur:Array Value}{t:TypeId}(h:TV w V q X f w')(hb:w.heap.size≤b)(ho:Off w' V b)(hr:w'.heap[b]?=some (.cells cur t (0,0)))(t1:t≠130)(t2:t≠108)(new:Array Value):TV w V q X f (w'.setRow b new):=by
 obtain⟨hf1,hf2⟩:=hasVol_only h.v (kq0 q) ho hr t1 t2 (.inl rfl) (gR new)
 exact⟨hf1,grown_only h.g hb (gR _),h.l.trans (Loc.same (World.cell?_of_block (setRow_other _ _ _ _ ho.1))) h.g.size⟩
theorem row_any{w:World}{b:Nat}{cs:List Value}{t:TypeId}(h:w.heap[b]?=some (.cells cs.toArray t (0,0))):w.rangeAt b 0 cs:=fun j v hv=>by
 rw[Nat.zero_add,cell_of_row w b j _ _ _ h]
 simpa using hv
theorem tv_blk{w w':World}{V:Pl}{b:Nat}(h:TV w V q X f w')(hb:b < w.heap.size)(hne:V.b≠b):w'.heap[b]?=w.heap[b]?:=h.g.block b hb (by simpa using hne.symm)
theorem box_parts(w:World)(vp:Value)(p:Pt.Pn):∃W,W=((w.alloc (.cells #[vp] 51)).alloc (.cells (Pt.pV p).toArray 24)).alloc (.cells (Pt.f3 Pt.zP).toArray 83)∧Below w.heap.size w W∧W.heap.size=w.heap.size+3∧
  W.heap[w.heap.size]?=some (.cells #[vp] 51 (0,0))∧W.heap[w.heap.size+1]?=some (.cells (Pt.pV p).toArray 24 (0,0))∧W.heap[w.heap.size+2]?=some (.cells (Pt.f3 Pt.zP).toArray 83 (0,0)):=by
 have b1:Below w.heap.size w (w.alloc (.cells #[vp] 51)):=(Below.refl _ _).alloc (Nat.le_refl _) _
 have h1:=heap_alloc_new w (.cells #[vp] 51)
 have s1:(w.alloc (.cells #[vp] 51)).heap.size=w.heap.size+1:=by simp
 generalize w.alloc (.cells #[vp] 51)=w1 at *
 have b2:Below w1.heap.size w1 (w1.alloc (.cells (Pt.pV p).toArray 24)):=(Below.refl _ _).alloc (Nat.le_refl _) _
 have h2:=heap_alloc_new w1 (.cells (Pt.pV p).toArray 24)
 have s2:(w1.alloc (.cells (Pt.pV p).toArray 24)).heap.size=w.heap.size+2:=by simp[s1]
 generalize w1.alloc (.cells (Pt.pV p).toArray 24)=w2 at *
 have b3:Below w2.heap.size w2 (w2.alloc (.cells (Pt.f3 Pt.zP).toArray 83)):=(Below.refl _ _).alloc (Nat.le_refl _) _
 have h3:=heap_alloc_new w2 (.cells (Pt.f3 Pt.zP).toArray 83)
 have s3:(w2.alloc (.cells (Pt.f3 Pt.zP).toArray 83)).heap.size=w.heap.size+3:=by simp[s2]
 rw[s1] at h2
 rw[s2] at h3
 refine⟨_,rfl,(b1.trans (b2.mono (by omega))).trans (b3.mono (by omega)),s3,?_,?_,h3⟩
 ·exact(b3.block _ (by omega)).trans ((b2.block _ (by omega)).trans h1)
 ·exact(b3.block _ (by omega)).trans h2
theorem parts_no{w:World}{V:Pl}(_hv:HV w V q X f):Calls Tryz.prog 41 #[.pointer (some ⟨V.b,V.o,none⟩),.agg (Pt.pV Pt.hole).toArray] w fun e w'=>e=.returned (.tuple #[.agg (Pt.f3 fun _=>Pt.hole).toArray,.int .i64 0])∧Below w.heap.size w w':=by
 obtain⟨W,hW,hb0,hs0,h0,h1,h2⟩:=box_parts w (.pointer (some ⟨V.b,V.o,none⟩)) Pt.hole
 have HI:=Lib.hid (Pt.ishole_any Pt.hole W)
 rw[isHole_hole] at HI
 have HH:=Lib.hid (fun W=>holes_any W)
 have hr1:=Pt.rP h1
 clear _hv h0 h1
 go_enter Tryz.func41,Tryz.ntmps41
 go_wp2_with (first | (rw[←hW]) | (refine wpList_load_mid rfl 24 (.tmp 3) rfl (w.heap.size+1) 0 rfl (Pt.pV Pt.hole) _ (by exact hr1) Pt.undP rfl (Pt.sizeP Pt.hole) ?_; simp only[Act.put,aA]))
 refine HI.out.mono ?_
 rintro _ w1 ⟨rfl,hb1⟩
 dsimp only
 go_wp2_with fail
 refine(HH.out w1).mono ?_
 rintro _ w2 ⟨rfl,hb2⟩
 have hB1:=hb1.trans (hb2.mono hb1.size)
 have hx:=(hB1.block (w.heap.size+2) (by omega)).trans h2
 have hB:=hb0.trans (hB1.mono hb0.size)
 clear hr1 hb1 hb2 hB1 hb0 h2 hW HI HH
 dsimp only
 go_wp2_with (first | (refine @wpList_store_row _ _ _ _ _ _ _ rfl 83 (.tmp 4) (.tmp 12) rfl (w.heap.size+2) (Pt.f3 (fun _=>Pt.hole)).toArray rfl rfl 83 _ hx (Pt.size3' _) rfl (Pt.f3_all _) ?_; simp only[Act.put]))
 refine bodyPost_ret (Pt.results_3p rfl rfl rfl (setRow_heap _ _ _ _ _ _ hx)) rfl ?_
 exact⟨rfl,below_only hB (by omega) (gR _)⟩
theorem p3_ok{Q:Nat→Pt.Pn}(h:∀i,i < 3→Pt.rightB (Q i)=true):Pt.ndOk 3 Q:=⟨by omega,fun i hi=>by unfold Pt.nP; rw[if_pos hi]; exact h i hi⟩
theorem nb_parts{Q:Nat→Pt.Pn}(h:∀i,i < 3→Pt.rightB (Q i)=true):Pt.f3 (Pt.paV (nb Q))=Pt.f3 Q∧Pt.paE (nb Q)=0:=by
 obtain⟨h1,h2⟩:=Pt.node_parts (p3_ok h)
 refine⟨?_,h2⟩
 rw[show Pt.f3 (Pt.paV (nb Q))=_ from h1]
 exact Pt.f3_congr fun i hi=>by unfold Pt.nP; rw[if_pos hi]
theorem parts_yes{w:World}{V:Pl}(hkp:Rm.Kp w)(hv:HV w V q X f)(hP:Py q X f H)(hm:X.m≤90000){p:Pt.Pn}(hp:Pt.isHole p=false){Q:Nat→Pt.Pn}(hx:(p,nb Q) ∈ H)(hQ:∀i,i < 3→Sp.i64 (Q i).A∧Sp.i64 (Q i).B∧Vl.mn (nq q) X vM 28 (bq q) (zq q) (kq q) f (Q i)=true∧Pt.rightB (Q i)=true) :
  Calls Tryz.prog 41 #[.pointer (some ⟨V.b,V.o,none⟩),.agg (Pt.pV p).toArray] w fun e w'=>e=.returned (.tuple #[.agg (Pt.f3 Q).toArray,.int .i64 0])∧TV w V q X f w':=by
 obtain⟨W,hW,hb0,hs0,h0,h1,h2⟩:=box_parts w (.pointer (some ⟨V.b,V.o,none⟩)) p
 have hVb:=hv.lt
 have HI:=Lib.hid (Pt.ishole_any p W)
 rw[hp] at HI
 have HG:=Lib.hid (fun w1 (hb1:Below W.heap.size W w1)=>q_get hP hm hx ((hkp.below hb0).below hb1) ((hv.below hb0).below hb1))
 have hD:Pt.Bytes (nb Q):=(hP.el _ hx).b
 obtain⟨e1,e2⟩:=nb_parts fun i hi=>(hQ i hi).2.2.2
 have HPA:=Lib.hid (fun w3=>Pt.parts_any (nb Q) w3 hD)
 rw[e1,e2] at HPA
 have HCO:=Lib.hid (fun(w5:World) (hv5:HV w5 V q X f) (b8:Nat) (hvb:w5.cell? ⟨w.heap.size,0,none⟩=some (.pointer (some ⟨V.b,V.o,none⟩))) (h8:w5.heap[b8]?=some (.cells (Pt.f3 Q).toArray 83 (0,0)))=>contains_none hv5 tabM (i64_b q) Q (fun i hi=>⟨(hQ i hi).1,(hQ i hi).2.1,(hQ i hi).2.2.1⟩) hvb h8)
 have hr1:=Pt.rP h1
 have HT0:=Lib.hid (fun w1 (hb1:Below W.heap.size W w1)=>Tv.of hv (hb0.trans (hb1.mono hb0.size)))
 have HOF:=Lib.hid (fun(w6:World) (hl:Vl.Loc W V w6)=>((Off.new hv (kq0 q) (show w.heap.size≤w.heap.size+2 by omega)).below hVb hb0).loc (by omega) hl)
 have HLW:=Lib.hid (fun w1 (hb1:Below W.heap.size W w1)=>Vl.Loc.below hb1 (hv.below hb0).lt)
 clear hkp hv hP hx hQ hD e1 e2 hp
 generalize nb Q=D at *
 go_enter Tryz.func41,Tryz.ntmps41
 go_wp2_with (first | (rw[←hW]) | (refine wpList_load_mid rfl 24 (.tmp 3) rfl (w.heap.size+1) 0 rfl (Pt.pV p) _ (by exact hr1) Pt.undP rfl (Pt.sizeP p) ?_; simp only[Act.put,aA]))
 refine HI.out.mono ?_
 rintro _ w1 ⟨rfl,hb1⟩
 have hv1:w1.cell? ⟨w.heap.size,0,none⟩=some (.pointer (some ⟨V.b,V.o,none⟩)):=by rw[cell_of_row _ _ _ _ _ _ ((hb1.block w.heap.size (by omega)).trans h0)]; rfl
 have hr:=Pt.rP ((hb1.block (w.heap.size+1) (by omega)).trans h1)
 clear hr1 hW HI
 dsimp only
 go_wp2_with (first | (refine wpList_load_mid rfl 24 (.tmp 3) rfl (w.heap.size+1) 0 rfl (Pt.pV p) _ (by exact hr) Pt.undP rfl (Pt.sizeP p) ?_; simp only[Act.put,aA]))
 refine(HG.out w1 hb1).mono ?_
 rintro _ w2 ⟨rfl,hT2⟩
 have hT:=(HT0.out w1 hb1).trans hT2
 have hL:=(HLW.out w1 hb1).trans hT2.l hb1.size
 have hs1:=hb1.size
 have hs2:=hT2.g.size
 have hv2:w2.heap[w.heap.size]?=some (.cells #[.pointer (some ⟨V.b,V.o,none⟩)] 51 (0,0)):=(tv_blk hT2 (by omega) (by omega)).trans ((hb1.block w.heap.size (by omega)).trans h0)
 have hx2:w2.heap[w.heap.size+2]?=some (.cells (Pt.f3 Pt.zP).toArray 83 (0,0)):=(tv_blk hT2 (by omega) (by omega)).trans ((hb1.block (w.heap.size+2) (by omega)).trans h2)
 clear HG HT0 HLW hv1 hr h0 h1 h2 hb1 hT2
 have hb3:Below w2.heap.size w2 (w2.alloc (.cells (bl D).toArray 47)):=(Below.refl _ _).alloc (Nat.le_refl _) _
 have h6:=heap_alloc_new w2 (.cells (bl D).toArray 47)
 have hs3:(w2.alloc (.cells (bl D).toArray 47)).heap.size=w2.heap.size+1:=by simp
 have hr6:=row_all h6
 have HB3:=Lib.hid hb3
 have HT:=Lib.hid hT
 have HL:=Lib.hid hL
 clear hb3 hT hL
 dsimp only
 go_upto_region 4 with (refine @wpList_store_row _ _ _ _ _ _ _ rfl 47 (.tmp 6) (.tmp 17) rfl w2.heap.size (bl D).toArray rfl rfl 47 _ (heap_alloc_new w2 _) (by rw[List.size_toArray]; exact sB _) rfl (all_oneCell_toArray (bl_one _)) ?_; simp only[Act.put]; rw[World.setRow_alloc_new]; generalize w2.alloc (.cells (bl D).toArray 47)=w3 at HB3 h6 hs3 hr6 ⊢)
 go_wp2_with (first | (refine wpList_load_mid rfl 47 (.tmp 6) rfl w2.heap.size 0 rfl (bl D) _ (by exact hr6) undB rfl (sB D) ?_; simp only[Act.put,aA]))
 refine(HPA.out w3).mono ?_
 rintro _ w4 ⟨rfl,hb4⟩
 have hB4:=HB3.out.trans (hb4.mono HB3.out.size)
 have hs4:=hb4.size
 clear HPA HB3 hr6 h6 hb4
 have hb5:Below w4.heap.size w4 (w4.alloc (.cells (Pt.f3 Q).toArray 83)):=(Below.refl _ _).alloc (Nat.le_refl _) _
 have h8:=heap_alloc_new w4 (.cells (Pt.f3 Q).toArray 83)
 have hB5:=hB4.trans (hb5.mono (by omega))
 have HB5:=Lib.hid hB5
 have H8:=Lib.hid h8
 clear hb5 hB4 hB5 h8
 dsimp only
 go_upto_region 7 with (refine @wpList_store_row _ _ _ _ _ _ _ rfl 83 (.tmp 8) (.tmp 26) rfl w4.heap.size (Pt.f3 Q).toArray rfl rfl 83 _ (heap_alloc_new w4 _) (Pt.size3' _) rfl (Pt.f3_all _) ?_; simp only[Act.put]; rw[World.setRow_alloc_new]; generalize w4.alloc (.cells (Pt.f3 Q).toArray 83)=w5 at HB5 H8 ⊢)
 go_wp2_with fail
 have hvw:w5.cell? ⟨w.heap.size,0,none⟩=some (.pointer (some ⟨V.b,V.o,none⟩)):=by rw[cell_of_row _ _ _ _ _ _ ((HB5.out.block w.heap.size (by omega)).trans hv2)]; rfl
 refine(HCO.out w5 (HT.out.v.below HB5.out) w4.heap.size hvw H8.out).mono ?_
 rintro _ w6 ⟨rfl,hb6⟩
 have hB6:=HB5.out.trans (hb6.mono HB5.out.size)
 have hx6:=(hB6.block (w.heap.size+2) (by omega)).trans hx2
 have hr8:=row_any ((hb6.block w4.heap.size (Array.getElem?_eq_some_iff.1 H8.out).1).trans H8.out)
 have hO:=HOF.out w6 (HL.out.trans (Vl.Loc.below hB6 HT.out.v.lt) (by omega))
 have hT6:=HT.out.below hB6
 have HO:=Lib.hid hO
 have HT6:=Lib.hid hT6
 clear HCO HOF HT HL HB5 H8 hvw hb6 hB6 hv2 hx2 hO hT6
 dsimp only
 go_wp2_with (first | (refine wpList_load_mid rfl 83 (.tmp 8) rfl w4.heap.size 0 rfl (Pt.f3 Q) _ (by exact hr8) Pt.und3 rfl (Pt.size3 Q) ?_; simp only[Act.put,aA]) | (refine @wpList_store_row _ _ _ _ _ _ _ rfl 83 (.tmp 4) (.tmp 37) rfl (w.heap.size+2) (Pt.f3 Q).toArray rfl rfl 83 _ hx6 (Pt.size3' _) rfl (Pt.f3_all _) ?_; simp only[Act.put]))
 refine bodyPost_ret (Pt.results_3p rfl rfl rfl (setRow_heap _ _ _ _ _ _ hx6)) rfl ?_
 exact⟨rfl,tv_row HT6.out (by omega) HO.out hx6 (by decide) (by decide) _⟩
theorem parts_t{w:World}{V:Pl}(hkp:Rm.Kp w)(hv:HV w V q X f)(hP:Py q X f H)(hm:X.m≤90000){d:Nat}{T:Tr}(ho:T.ok (d+1))(hon:T.on H) :
  Calls Tryz.prog 41 #[.pointer (some ⟨V.b,V.o,none⟩),.agg (Pt.pV T.root).toArray] w fun e w'=>e=.returned (.tuple #[.agg (Pt.f3 T.rts).toArray,.int .i64 0])∧TV w V q X f w':=by
 cases T with
 | no=>
  rw[rts_no]
  exact(parts_no hv).mono fun e w' ⟨he,hb⟩=>⟨he,Tv.of hv hb⟩
 | leaf p b=>exact ho.elim
 | node p a b c=>
  have hm':(p,nb (Tr.node p a b c).rts) ∈ H:=by
   rw[nb_eq]
   exact hon _ (by simp[Tr.held])
  have hA:=(root_A hP ho hon (fun e=>by cases e)).1
  refine parts_yes hkp hv hP hm (hole_A hA) hm' fun i _=>?_
  obtain⟨h1,h2,h3,h4,_⟩:=root_mine hP (ok_ch ho i) (on_ch hon i)
  exact⟨h1,h2,h3,h4⟩
end St
namespace Sp
open Go.RowKit Dk Eqb Byt
theorem inf_ptr:(Tryz.prog.info? 24).map (fun i=>(i.zero,i.size,i.bytes))=some (some (.agg (Pt.pV Pt.pz).toArray),34,48):=by kernel_rfl
theorem und_ptrs:Tryz.prog.underlying 52=some (.slice 24):=by kernel_rfl
def pcs(H:List Pt.Pn):List Value:=H.flatMap Pt.pV
theorem pcs_len:∀H:List Pt.Pn,(pcs H).length=H.length * 34
 | []=>rfl
 | p :: H=>by
  show(Pt.pV p ++ pcs H).length=_
  rw[List.length_append,Pt.pL,pcs_len H,List.length_cons]
  omega
theorem pcs_append(H H':List Pt.Pn):pcs (H ++ H')=pcs H ++ pcs H':=by simp[pcs]
theorem pcs_single(p:Pt.Pn):pcs [p]=Pt.pV p:=by simp[pcs]
theorem pcs_one(H:List Pt.Pn):∀u ∈ pcs H,u.oneCell'=true:=by
 intro u hu
 obtain⟨p,_,hp⟩:=List.mem_flatMap.1 hu
 exact Pt.pV_one p u hp
theorem pcs_get:∀{H:List Pt.Pn} {j r:Nat} {p:Pt.Pn} {v:Value},H[j]?=some p→(Pt.pV p)[r]?=some v→(pcs H)[j * 34+r]?=some v
 | [],j,r,p,v,h,_=>by simp at h
 | q :: H,0,r,p,v,h,hv=>by
  simp at h
  subst h
  have hr:r < 34:=by have:=(List.getElem?_eq_some_iff.1 hv).1; rwa [Pt.pL] at this
  show(Pt.pV q ++ pcs H)[0 * 34+r]?=some v
  rw[Nat.zero_mul,Nat.zero_add,List.getElem?_append_left (by rw[Pt.pL]; exact hr)]
  exact hv
 | q :: H,j+1,r,p,v,h,hv=>by
  simp at h
  show(Pt.pV q ++ pcs H)[(j+1) * 34+r]?=some v
  rw[List.getElem?_append_right (by rw[Pt.pL]; omega),Pt.pL,show(j+1) * 34+r - 34=j * 34+r by omega]
  exact pcs_get h hv
def OwnP(w:World)(base:Nat)(v:Value)(H:List Pt.Pn):Prop:=w.ownsRow base 24 34 v H.length (pcs H)
section
variable {w w':World}{base:Nat}{v:Value}{H:List Pt.Pn}
theorem OwnP.nil(w:World)(base:Nat):OwnP w base (.slice none 0 0) []:=World.ownsRow_nil _ _ _ _
theorem OwnP.slice(h:OwnP w base v H):(v=.slice none 0 0∧H=[])∨∃b cap,v=.slice (some ⟨b,0,none⟩) H.length cap∧base≤b∧b < w.heap.size∧H.length≤cap∧∀j u,(pcs H)[j]?=some u→w.cell? ⟨b,j,none⟩=some u:=by
 have hc:=fun(g:Nat) (hg:v.ownBlock=some g)=>World.ownsRow.cells h hg
 rcases h.2 with ⟨h1,h2⟩ | ⟨g,cap,cur,h1,hb,hg,hn,_⟩
 ·exact .inl ⟨h1,List.eq_nil_of_length_eq_zero h2⟩
 ·refine .inr ⟨g,cap,h1,hb,(Array.getElem?_eq_some_iff.1 hg).1,hn,fun j u hu=>?_⟩
  have:=hc g (by rw[h1]; rfl) j u hu
  rwa [show(⟨g,0,none⟩:Addr).add j=⟨g,j,none⟩ by unfold Addr.add; split <;> simp_all] at this
theorem OwnP.shape(h:OwnP w base v H):∃ao cap,v=.slice ao H.length cap:=by
 rcases h.slice with ⟨h1,h2⟩ | ⟨b,cap,h1,_⟩
 ·subst h2; exact⟨_,_,h1⟩
 ·exact⟨_,_,h1⟩
end
section
variable {w:World}{base n c b:Nat}{a:Option Addr}{H:List Pt.Pn}
theorem OwnP.at(h:OwnP w base (.slice a n c) H)(hn:0 < H.length):∃b,a=some ⟨b,0,none⟩∧b < w.heap.size:=by
 rcases h.slice with ⟨_,h2⟩ | ⟨b,cap,h1,_,h3,_⟩
 ·rw[h2] at hn; simp at hn
 ·injection h1 with h1 _ _
  exact⟨b,h1,h3⟩
theorem OwnP.ptr(h:OwnP w base (.slice (some ⟨b,0,none⟩) n c) H){m:Nat}{q:Pt.Pn}(hq:H[m]?=some q):w.rangeAt b (m * 34) (Pt.pV q)∧w.cell? ⟨b,m * 34,none⟩=some (.int .i64 q.A)∧w.cell? ⟨b,m * 34+1,none⟩=some (.int .i64 q.B):=by
 rcases h.slice with ⟨h1,_⟩ | ⟨b',cap,h1,_,_,_,hc⟩
 ·cases h1
 ·injection h1 with h1 _ _
  injection h1 with h1
  injection h1 with h1 _ _
  subst h1
  exact⟨fun j v hv=>hc _ v (pcs_get hq hv),hc _ _ (by have:=pcs_get (r:=0) hq rfl; exact this),hc _ _ (pcs_get (r:=1) hq rfl)⟩
theorem OwnP.room(h:OwnP w base (.slice a n c) H):H.length≤c∧n=H.length∧c≤maxLen:=by
 rcases h.2 with ⟨h1,h2⟩ | ⟨g,cap,cur,h1,_,_,hn,hm,_⟩
 ·injection h1 with _ h3 h4
  subst h4
  exact⟨by omega,by omega,by unfold maxLen; omega⟩
 ·injection h1 with _ h3 h4
  subst h4
  exact⟨hn,h3,hm⟩
end
theorem fillP(p:Pt.Pn):Instr.fill (fun i=>some (i * 34,34)) ((Array.range (1 * 34)).map ((Value.agg (Pt.pV Pt.pz).toArray).cells[· % (Value.agg (Pt.pV Pt.pz).toArray).cells.size]!)) [(0,.agg (Pt.pV p).toArray)]=some (Pt.pV p).toArray:=by kernel_rfl
theorem run_app_pts{w:World}{base:Nat}{v:Value}{H L:List Pt.Pn}(ty:TypeId)(hown:OwnP w base v H)(ad:Addr)(m c:Nat)(hm:m=L.length)(hnews:∀j u,(pcs L)[j]?=some u→w.cell? (ad.add j)=some u)(hlen:H.length+L.length≤1000000)(hbase:base≤w.heap.size) :
  ∃v' w',(Builtin.append_ #[52,52] ty #[v,.slice (some ad) m c]).run Tryz.prog w=.ok v' w'∧OwnP w' base v' (H ++ L)∧w.grownBy w' v.ownBlock∧(v'.ownBlock=v.ownBlock∨v'.ownBlock=some w.heap.size):=by
 obtain⟨i0,hi,hz0,hz1,hz2⟩:=info_parts inf_ptr
 subst hm
 obtain⟨v',w',h1,h2,h3,_,h5⟩:=run_append_own_at (P:=Tryz.prog) w base 52 ty 24 i0 _ 34 48 und_ptrs hi hz0 hz1 hz2 (by show(Pt.pV Pt.pz).toArray.size=34; exact Pt.pV_asize _) (by decide) v H.length (pcs H) hown ad L.length c (pcs L) (pcs_len L) hnews (pcs_one L) (by unfold maxLen; omega) (by omega) hbase
 refine⟨v',w',h1,?_,h3,h5⟩
 unfold OwnP
 rw[List.length_append,pcs_append]
 exact h2
end Sp
namespace St
open Go.RowKit Dk Gm Eqb Rm Di Vl Qv Sp
open Vm (HasVol vM)
attribute [local go_sem] Pt.zvP Pt.zv3 zv29
attribute [local go_sem] Pt.zc3 zc29
theorem run_app_any{w:World}{base base2:Nat}{v v2:Value}{H L:List Pt.Pn}(ty:TypeId)(hown:OwnP w base v H)(hown2:OwnP w base2 v2 L)(hlen:H.length+L.length≤1000000)(hbase:base≤w.heap.size) :
  ∃v' w',(Builtin.append_ #[52,52] ty #[v,v2]).run Tryz.prog w=.ok v' w'∧OwnP w' base v' (H ++ L)∧w.grownBy w' v.ownBlock∧(v'.ownBlock=v.ownBlock∨v'.ownBlock=some w.heap.size):=by
 rcases hown2.slice with ⟨rfl,rfl⟩ | ⟨b,cap,rfl,_,_,_,hc⟩
 ·obtain⟨i0,hi,hz0,hz1,hz2⟩:=info_parts inf_ptr
  refine⟨v,w,run_append_owned_none w base 52 ty 24 i0 34 und_ptrs hi v H.length (pcs H) hown,by rw[List.append_nil]; exact hown,⟨rfl,rfl,rfl,Nat.le_refl _,fun _ _ _=>rfl⟩,.inl rfl⟩
 ·refine run_app_pts ty hown ⟨b,0,none⟩ L.length cap rfl (fun j u hu=>?_) hlen hbase
  rw[show(⟨b,0,none⟩:Addr).add j=⟨b,j,none⟩ by unfold Addr.add; split <;> simp_all]
  exact hc j u hu
def Tr.ps(T:Tr):List Pt.Pn:=T.held.map (·.1)
def Tr.pk(T:Tr):Nat→List Pt.Pn
 | 0=>[T.root]
 | k+1=>T.pk k ++ (T.ch k).ps
theorem held_len:∀{d:Nat} {T:Tr},T.ok d→2 * T.held.length+1≤3 * wd d
 | d,.no,_=>by have:=wd_pos d; simp[Tr.held]; omega
 | 0,.leaf p b,_=>by simp[Tr.held,wd]
 | 0,.node ..,h=>h.elim
 | _+1,.leaf ..,h=>h.elim
 | d+1,.node p a b c,h=>by
  obtain⟨h0,h1,h2,_⟩:=h
  have i0:=held_len h0
  have i1:=held_len h1
  have i2:=held_len h2
  simp only[Tr.held,List.length_cons,List.length_append]
  rw[wd]
  omega
variable {q:Qt}{X:Dst}{f:Nat→Int}{H:List Hd}
section
variable {w wr w':World}{V:Pl}{v v':Value}{P P':List Pt.Pn}
theorem grown_none{w w':World}(h:w.grownBy w' none):Below w.heap.size w w':=⟨h.os,h.tape,h.output,h.size,fun k hk=>h.block k hk (by simp)⟩
end
end St
end Go.Proofs.YteaocagepfgfnaaGreatDoor
