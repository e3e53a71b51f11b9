import Derived.Test.YteaocagepfgfnaaGreatDoorPDiPut
import Derived.Test.YteaocagepfgfnaaGreatDoorPAl
set_option maxRecDepth 100000
set_option maxHeartbeats 8000000
namespace Go.Proofs.YteaocagepfgfnaaGreatDoor
namespace Di
open Go.RowKit Dk Byt Eqb Rm
attribute [local go_sem] zv29
attribute [local go_sem] Pt.zvP
attribute [local go_sem] zc29
def Gots(w:World)(g:Pl)(n:Nat)(R:GR)(e:Ending)(w':World):Prop:=e=.returned (.tuple #[.agg (bl R.V).toArray,.int .i64 R.h,.int .i64 R.e])∧w.grownBy w' (some g.b)∧HasV w' g n R.X R.M
theorem results_gt{tmps:Array Value}{w:World}{B:Nat}{D:Nat→Int}{h e:Int}{fn:Func}(hf:fn.results=#[.cell 6 47,.tmp 7,.tmp 8])(h4:tmps.getD 6 undef=.pointer (some ⟨B,0,none⟩))(h6:tmps.getD 7 undef=.int .i64 h)(h5:tmps.getD 8 undef=.int .i64 e)
  (kV:w.heap[B]?=some (.cells (bl D).toArray 47 (0,0))):(results fn tmps).run Tryz.prog w=.ok (.tuple #[.agg (bl D).toArray,.int .i64 h,.int .i64 e]) w:=by
 have h4':tmps[6]?.getD undef=.pointer (some ⟨B,0,none⟩):=by simpa using h4
 have h6':tmps[7]?.getD undef=.int .i64 h:=by simpa using h6
 have h5':tmps[8]?.getD undef=.int .i64 e:=by simpa using h5
 have hv:=run_loadVar_row (P:=Tryz.prog) w B 47 47 (bl D).toArray (0,0) _ kV und29 rfl (size_bl' D)
 simp[results,hf,h4',h6',h5',asAddr,hv]
structure GtW(w:World)(p:Pt.Pn)(f:Nat→Int)(w':World):Prop where
 be:Below w.heap.size w w'
 p:w'.heap[w.heap.size]?=some (.cells (Pt.pV p).toArray 24 (0,0))
 f:w'.heap[w.heap.size+1]?=some (.cells (bl f).toArray 47 (0,0))
theorem GtW.below{w w' w'':World}{p:Pt.Pn}{f:Nat→Int}(h:GtW w p f w')(hb:Below w'.heap.size w' w''):GtW w p f w'':=
 ⟨h.be.trans (hb.mono h.be.size),(hb.block _ (Array.getElem?_eq_some_iff.1 h.p).1).trans h.p,(hb.block _ (Array.getElem?_eq_some_iff.1 h.f).1).trans h.f⟩
theorem GtW.put{w w':World}{p:Pt.Pn}{f:Nat→Int}(h:GtW w p f w')(F:Nat→Int):GtW w p F (w'.setRow (w.heap.size+1) (bl F).toArray):=
 ⟨below_only h.be (by omega) (gR _),(setRow_other w' _ _ _ (by omega)).trans h.p,setRow_heap w' _ _ _ _ _ h.f⟩
theorem box_get(w:World)(p:Pt.Pn):∃W,W=(w.alloc (.cells (Pt.pV p).toArray 24)).alloc (.cells (bl fun _=>0).toArray 47)∧GtW w p (fun _=>0) W:=by
 refine⟨_,rfl,((Below.refl _ _).alloc (Nat.le_refl _) _).alloc (by simp) _,(Below.heap_alloc _ _ _ (by simp)).trans (heap_alloc_new w _),?_⟩
 have:=heap_alloc_new (w.alloc (.cells (Pt.pV p).toArray 24)) (.cells (bl fun _=>0).toArray 47)
 rwa [World.size_alloc] at this
section
variable {n:Nat}{X:Dst}{M:Tab}{p:Pt.Pn}
theorem g_no(h:homB n X M p=false):gRes n X M p=⟨fun _=>0,0,1,X,M⟩:=by unfold gRes; rw[if_pos h]
theorem g_hole(h:homB n X M p=true)(hA:p.A = -1):gRes n X M p=⟨fun _=>0,0,0,X,M⟩:=by unfold gRes; rw[if_neg (by rw[h]; decide),if_pos hA]
theorem g_down(h:homB n X M p=true)(hA:p.A≠-1)(hd:X.d=true):gRes n X M p=⟨fun _=>0,0,3,X,M⟩:=by unfold gRes; rw[if_neg (by rw[h]; decide),if_neg hA,if_pos hd]
theorem g_one(h:homB n X M p=true)(hA:p.A≠-1)(hd:X.d=false)(ha:gdB n X M p p.A=true):gRes n X M p=⟨tV n X M p.A,0,0,X,M⟩:=by unfold gRes; rw[if_neg (by rw[h]; decide),if_neg hA,if_neg (by rw[hd]; decide),if_pos ha]
theorem g_bad(h:homB n X M p=true)(hA:p.A≠-1)(hd:X.d=false)(ha:gdB n X M p p.A=false)(hb:p.B = -1∨gdB n X M p p.B=false):gRes n X M p=⟨fun _=>0,0,2,X,M⟩:=by
 unfold gRes
 rw[if_neg (by rw[h]; decide),if_neg hA,if_neg (by rw[hd]; decide),if_neg (by rw[ha]; decide)]
 rcases hb with hb | hb
 ·rw[if_pos hb]
 ·rw[hb]
  split <;> rfl
theorem g_two(h:homB n X M p=true)(hA:p.A≠-1)(hd:X.d=false)(ha:gdB n X M p p.A=false)(hB:p.B≠-1)(hb:gdB n X M p p.B=true):gRes n X M p=gHeal (tV n X M p.B) (wRes n X M p.A (tV n X M p.B)):=by
 unfold gRes
 rw[if_neg (by rw[h]; decide),if_neg hA,if_neg (by rw[hd]; decide),if_neg (by rw[ha]; decide),if_neg hB,if_pos hb]
theorem p_sides(hr:Pt.rightB p=true)(hh:Pt.isHole p=false):p.A≠-1∧p.A≠p.B:=by
 unfold Pt.rightB at hr
 rw[hh] at hr
 simp only[Bool.false_or,Bool.and_eq_true,Bool.or_eq_true,beq_iff_eq,bne_iff_ne] at hr
 have hs:=Pt.secB_iff.1 hr.1
 refine⟨by omega,?_⟩
 rcases hr.2 with e | e
 ·omega
 ·exact fun e'=>e.2 e'.symm
end
def GtI(x2 x3 x4 x7 x9 x11 x12 x13 x14 x15 x16 x17 x18 x19 x20 x21 x22 x23 x24 x25 x26 x37 x38 x39 x40 x41 x42 x43 x44 x45 x46 x47 x48 x49 x50 x51 x52 x53 x54 x55 x56 x57 x58 x59 x60 x61 x62 x63:Value)(w:World)(g b:Addr)(p:Pt.Pn)(x gen:Int)(pa:Option Addr)(k cap:Nat)(V f0:Nat→Int)(E:Int)(L:Nat→Bool)(a':Act)(w':World):Prop:=
 ∃u0 u1 u2 u3 u4 u5 u6 u7 u8 u9 u11,a'={ tmps:=#[.pointer (some g),.pointer (some b),x2,x3,x4,.pointer (some ⟨w.heap.size,0,none⟩),.pointer (some ⟨w.heap.size+1,0,none⟩),x7,u11,x9,.int .i64 x,x11,x12,x13,x14,x15,x16,x17,x18,x19,x20,x21,x22,x23,x24,x25,x26,u7,u0,u1,u2,u3,u4,u5,u6,u8,u9,x37,x38,x39,x40,x41,x42,x43,x44,x45,x46,x47,x48,x49,x50,x51,x52,x53,x54,x55,x56,x57,x58,x59,x60,x61,x62,x63],defers:=[] }∧(L 0=true→u0=.pointer (some g))∧(L 1=true→u1=.pointer (some b))∧(L 2=true→u2=.pointer (some b))∧(L 3=true→u3=.agg #[.int .i64 gen,.slice pa k cap])∧(L 4=true→u4=.agg (Pt.pV p).toArray)∧(L 5=true→u5=.int .i64 x)∧(L 6=true→u6=.tuple #[.agg (bl V).toArray,.int .i64 E])∧(L 7=true→u7=.tuple #[.agg (bl V).toArray,.int .i64 E])∧(L 8=true→u8=.agg (bl V).toArray)∧(L 9=true→u9=.int .i64 E)∧(L 11=true→u11=.int .i64 E)∧GtW w p (if L 10 then V else f0) w'
theorem gKk{L:Nat→Bool}{i k:Nat}{Q:Prop}(h:L k=true→Q)(h1:(k == i)=false):(k == i || L k)=true→Q:=by
 rw[h1,Bool.false_or]
 exact h
theorem get_d{w:World}{g:Pl}{n:Nat}{X:Dst}(hkp:Rm.Kp w)(hok:Ok 23 X)(gen:Int)(k:Nat)(F T:Nat→Int)(hT:HasV w g n X ⟨gen,k,F,T⟩)(hm:TabOk ⟨gen,k,F,T⟩)(p:Pt.Pn)(hyA:byt (tV n X ⟨gen,k,F,T⟩ p.A))(hyB:byt (tV n X ⟨gen,k,F,T⟩ p.B)) :
  Calls Tryz.prog 77 #[.pointer (some ⟨g.b,g.o,none⟩),.pointer (some ⟨g.b,g.o+4,none⟩),.agg (Pt.pV p).toArray] w (Gots w g n (gRes n X ⟨gen,k,F,T⟩ p)):=by
 unfold Gots
 obtain⟨pa,cap,h,hl,_⟩:=id hT
 have hgl:g.b < w.heap.size:=h.lt
 dsimp only at h hl
 have HTT:=Lib.hid (fun w' (hw:Below w.heap.size w w')=>hT.below hw)
 have HTB:=Lib.hid (fun w' (hw:Below w.heap.size w w')=>show w'.cell? ⟨g.b,g.o+4,none⟩=some (.int .i64 gen)∧w'.cell? ⟨g.b,g.o+4+1,none⟩=some (.slice pa k cap) from⟨(h.below hw).tab.1,(h.below hw).tab.2.1⟩)
 have HHM:=Lib.hid (fun w' (hw:Below w.heap.size w w')=>home_d gen k F T (hT.below hw) hm p)
 have HRA:=Lib.hid (fun w' (hw:Below w.heap.size w w')=>cread_d (h.below hw) (hkp.below hw) gen k F T pa cap g.b p p.A ((hl.below hw).more hw.size) hm.1 hm.2 hyA)
 have HRB:=Lib.hid (fun w' (hw:Below w.heap.size w w')=>cread_d (h.below hw) (hkp.below hw) gen k F T pa cap g.b p p.B ((hl.below hw).more hw.size) hm.1 hm.2 hyB)
 have HHL:=Lib.hid (fun w' (hw:Below w.heap.size w w') V=>heal_d (hkp.below hw) hok gen k F T (hT.below hw) hm p.A V)
 have HHO:=Lib.hid (@hom_parts n X ⟨gen,k,F,T⟩ p)
 have HCA:=Lib.hid (fun hf hr hl=>c_cases (n:=n) (X:=X) (M:=⟨gen,k,F,T⟩) (p:=p) (x:=p.A) hf hr hl)
 have HCB:=Lib.hid (fun hf hr hl=>c_cases (n:=n) (X:=X) (M:=⟨gen,k,F,T⟩) (p:=p) (x:=p.B) hf hr hl)
 have G1:=Lib.hid (@g_no n X ⟨gen,k,F,T⟩ p)
 have G2:=Lib.hid (@g_hole n X ⟨gen,k,F,T⟩ p)
 have G3:=Lib.hid (@g_down n X ⟨gen,k,F,T⟩ p)
 have G4:=Lib.hid (@g_one n X ⟨gen,k,F,T⟩ p)
 have G5:=Lib.hid (@g_bad n X ⟨gen,k,F,T⟩ p)
 have G6:=Lib.hid (@g_two n X ⟨gen,k,F,T⟩ p)
 have HWR:=Lib.hid (fun x V hr=>w_right (n:=n) (X:=X) (M:=⟨gen,k,F,T⟩) (x:=x) (V:=V) hr)
 clear h hkp hok hT hm hl hyA hyB
 generalize gRes n X ⟨gen,k,F,T⟩ p=R at G1 G2 G3 G4 G5 G6 ⊢
 generalize homB n X ⟨gen,k,F,T⟩ p=hm at HHM HHO G1 G2 G3 G4 G5 G6
 obtain⟨W,hW,hG0⟩:=box_get w p
 have HG0:=Lib.hid hG0
 have q0:=Pt.rP hG0.p
 go_enter Tryz.func77,Tryz.ntmps77
 rw[hW] at q0
 go_wp2_with (refine @wG _ _ _ _ _ _ _ (by kernel_rfl) 24 (.tmp 5) rfl w.heap.size 0 rfl (Pt.pV p) _ q0 Pt.undP rfl (Pt.sizeP p) ?_; simp only[Act.put,aA])
 rw[←hW]
 clear hW q0 hG0
 refine(HHM.out W HG0.out.be).mono ?_
 rintro _ w1 ⟨rfl,hb1⟩
 have HG1:=Lib.hid (HG0.out.below hb1)
 clear hb1 HG0 HHM
 dsimp only
 cases hm with
 | false=>
  have hR:=Lib.hid (G1.out rfl)
  have hz:=HG1.out.f
  clear HHO G1 G2 G3 G4 G5 G6
  go_wp2_with (first
   | (refine wpList_buildTo rfl 47 #[] rfl _ rfl (bl fun _=>0).toArray builtB ?_; simp only[Act.put,aA])
   | (refine wpList_store_row rfl 47 (.tmp 6) (.tmp 16) rfl (w.heap.size+1) (bl fun _=>0).toArray rfl rfl 47 _ hz (size_bl' _) rfl (bl_all _) ?_; simp only[Act.put]))
  refine bodyPost_ret (results_gt rfl rfl rfl rfl (setRow_heap _ _ _ _ _ _ hz)) rfl ?_
  have hB:=below_only HG1.out.be (Nat.le_succ _) (gR (B:=w.heap.size+1) (bl fun _=>0).toArray)
  exact⟨by rw[hR.out]; try rfl,oB hB,by rw[hR.out]; exact HTT.out _ hB⟩
 | true=>
  obtain⟨hfo,hri,hpr,hoA,hoB⟩:=HHO.out rfl
  have HHP:=Lib.hid hpr
  have HRI:=Lib.hid hri
  replace HCA:=Lib.hid (HCA.out hfo hri)
  replace HCB:=Lib.hid (HCB.out hfo hri)
  have HOA:=Lib.hid hoA
  have HOB:=Lib.hid hoB
  replace G2:=Lib.hid (G2.out rfl)
  replace G3:=Lib.hid (G3.out rfl)
  replace G4:=Lib.hid (G4.out rfl)
  replace G5:=Lib.hid (G5.out rfl)
  replace G6:=Lib.hid (G6.out rfl)
  have q1:=Pt.rP HG1.out.p
  clear HHO G1 hfo hri hpr hoA hoB
  go_wp2_with (refine @wG _ _ _ _ _ _ _ (by kernel_rfl) 24 (.tmp 5) rfl w.heap.size 0 rfl (Pt.pV p) _ q1 Pt.undP rfl (Pt.sizeP p) ?_; simp only[Act.put,aA])
  refine(Pt.ishole_any p w1).mono ?_
  rintro _ w2 ⟨rfl,hb2⟩
  have HG2:=Lib.hid (HG1.out.below hb2)
  clear hb2 HG1 q1
  dsimp only
  cases hho:Pt.isHole p with
  | true=>
   have hR:=Lib.hid (G2.out (Pt.eqP_iff.1 hho).1)
   have hz:=HG2.out.f
   clear G2 G3 G4 G5 G6 hho
   go_wp2_with (first
    | (refine wpList_buildTo rfl 47 #[] rfl _ rfl (bl fun _=>0).toArray builtB ?_; simp only[Act.put,aA])
    | (refine wpList_store_row rfl 47 (.tmp 6) (.tmp 19) rfl (w.heap.size+1) (bl fun _=>0).toArray rfl rfl 47 _ hz (size_bl' _) rfl (bl_all _) ?_; simp only[Act.put]))
   refine bodyPost_ret (results_gt rfl rfl rfl rfl (setRow_heap _ _ _ _ _ _ hz)) rfl ?_
   have hB:=below_only HG2.out.be (Nat.le_succ _) (gR (B:=w.heap.size+1) (bl fun _=>0).toArray)
   exact⟨by rw[hR.out]; try rfl,oB hB,by rw[hR.out]; exact HTT.out _ hB⟩
  | false=>
   obtain⟨hA1,hAB⟩:=p_sides HHP.out hho
   have hA':(p.A == -1)=false:=by simpa using hA1
   have hAB':(p.A == p.B)=false:=by simpa using hAB
   have HA1:=Lib.hid hA1
   replace HCA:=Lib.hid (HCA.out (HOA.out.resolve_left hA1))
   replace G3:=Lib.hid (G3.out hA1)
   replace G4:=Lib.hid (G4.out hA1)
   replace G5:=Lib.hid (G5.out hA1)
   replace G6:=Lib.hid (G6.out hA1)
   have q2:=Pt.rP HG2.out.p
   clear hho hA1 hAB HHP HOA G2
   go_wp2_with (refine @wG _ _ _ _ _ _ _ (by kernel_rfl) 24 (.tmp 5) rfl w.heap.size 0 rfl (Pt.pV p) _ q2 Pt.undP rfl (Pt.sizeP p) ?_; simp only[Act.put,aA])
   refine(sectors_any p w2).mono ?_
   rintro _ w3 ⟨rfl,hb3⟩
   have HG3:=Lib.hid (HG2.out.below hb3)
   clear hb3 HG2 q2
   dsimp only
   generalize cE n X ⟨gen,k,F,T⟩ p p.A=EA at HRA HCA
   generalize hVA:cV n X ⟨gen,k,F,T⟩ p p.A=VA at HRA HCA
   generalize cE n X ⟨gen,k,F,T⟩ p p.B=EB at HRB HCB
   generalize hVB:cV n X ⟨gen,k,F,T⟩ p p.B=VB at HRB HCB
   generalize tV n X ⟨gen,k,F,T⟩ p.A=TA at HCA G4
   generalize tV n X ⟨gen,k,F,T⟩ p.B=TB at HCB G6
   clear hVA hVB
   generalize gdB n X ⟨gen,k,F,T⟩ p p.A=ga at HCA G4 G5 G6
   generalize gdB n X ⟨gen,k,F,T⟩ p p.B=gb at HCB G5 G6
   go_wp2_with fail
   go_loopw [7,22] (fun h i wr=>∃c:Nat,c≤2∧i=.int .i64 c∧h=.int .i64 0∧Hid ((∃f,GtW w p f wr)∧(0 < c→X.d=false∧ga=false)∧(1 < c→p.B = -1∨gb=false))) (fun _ i _=>2 - (intOf i).toNat)
   case atStart=>exact⟨0,by omega,rfl,rfl,Lib.hid ⟨⟨_,HG3.out⟩,fun h=>by omega,fun h=>by omega⟩⟩
   case round=>
    obtain⟨c,hc,rfl,rfl,hR⟩:=hrel
    obtain⟨f0,hG⟩:=hR.out.1
    have HGI:Hid (GtW w p f0 { wr with drawn:=wr.drawn+1 }):=Lib.hid (hG.below ⟨rfl,rfl,rfl,Nat.le_refl _,fun _ _=>rfl⟩)
    have HGR:=Lib.hid hG
    clear HG3 hG
    match c,hc with
    | 0,_=>
     have hix:=run_index2A p.A p.B
     have HCR:=HRA
     go_wp2_with fail
     refine QuietTail2.regionInv (n:=12) (Inv:=GtI _ _ _ _ _ _ _ _ _ _ _ _ _ _ _ _ _ _ _ _ _ _ _ _ _ _ _ _ _ _ _ _ _ _ _ _ _ _ _ _ _ _ _ _ _ _ _ _ w ⟨g.b,g.o,none⟩ ⟨g.b,g.o+4,none⟩ p p.A gen pa k cap VA f0 EA) (by kernel_rfl) (by decide) (by kernel_rfl) ⟨_,_,_,_,_,_,_,_,_,_,_,rfl,by simp,by simp,by simp,by simp,by simp,by simp,by simp,by simp,by simp,by simp,by simp,HGI.out⟩ ?stepR ?finR
     case stepR=>
      rintro i o hi ho L a' w' ⟨u0,u1,u2,u3,u4,u5,u6,u7,u8,u9,u11,rfl,i0,i1,i2,i3,i4,i5,i6,i7,i8,i9,i11,iW⟩ hL hpre
      match i,hi with
      | 0,_=>
       simp at ho
       subst ho
       go_simp
       exact⟨_,u1,u2,u3,u4,u5,u6,u7,u8,u9,u11,rfl,fun _=>rfl,gKk i1 rfl,gKk i2 rfl,gKk i3 rfl,gKk i4 rfl,gKk i5 rfl,gKk i6 rfl,gKk i7 rfl,gKk i8 rfl,gKk i9 rfl,gKk i11 rfl,iW⟩
      | 1,_=>
       simp at ho
       subst ho
       go_simp
       exact⟨u0,_,u2,u3,u4,u5,u6,u7,u8,u9,u11,rfl,gKk i0 rfl,fun _=>rfl,gKk i2 rfl,gKk i3 rfl,gKk i4 rfl,gKk i5 rfl,gKk i6 rfl,gKk i7 rfl,gKk i8 rfl,gKk i9 rfl,gKk i11 rfl,iW⟩
      | 2,_=>
       simp at ho
       subst ho
       obtain rfl:=i1 (hpre 1 (by kernel_rfl))
       go_simp
       exact⟨u0,_,_,u3,u4,u5,u6,u7,u8,u9,u11,rfl,gKk i0 rfl,gKk i1 rfl,fun _=>rfl,gKk i3 rfl,gKk i4 rfl,gKk i5 rfl,gKk i6 rfl,gKk i7 rfl,gKk i8 rfl,gKk i9 rfl,gKk i11 rfl,iW⟩
      | 3,_=>
       simp at ho
       subst ho
       obtain rfl:=i2 (hpre 2 (by kernel_rfl))
       obtain⟨k0,k1⟩:=HTB.out w' iW.be
       go_simp
       exact⟨u0,u1,_,_,u4,u5,u6,u7,u8,u9,u11,rfl,gKk i0 rfl,gKk i1 rfl,gKk i2 rfl,fun _=>rfl,gKk i4 rfl,gKk i5 rfl,gKk i6 rfl,gKk i7 rfl,gKk i8 rfl,gKk i9 rfl,gKk i11 rfl,iW⟩
      | 4,_=>
       simp at ho
       subst ho
       refine wp_load_mid 24 (.tmp 5) rfl w.heap.size 0 rfl (Pt.pV p) _ (Pt.rP iW.p) Pt.undP rfl (Pt.sizeP p) ?_
       simp only[Act.put,aA]
       exact⟨u0,u1,u2,u3,_,u5,u6,u7,u8,u9,u11,rfl,gKk i0 rfl,gKk i1 rfl,gKk i2 rfl,gKk i3 rfl,fun _=>rfl,gKk i5 rfl,gKk i6 rfl,gKk i7 rfl,gKk i8 rfl,gKk i9 rfl,gKk i11 rfl,iW⟩
      | 5,_=>
       simp at ho
       subst ho
       go_simp
       exact⟨u0,u1,u2,u3,u4,_,u6,u7,u8,u9,u11,rfl,gKk i0 rfl,gKk i1 rfl,gKk i2 rfl,gKk i3 rfl,gKk i4 rfl,fun _=>rfl,gKk i6 rfl,gKk i7 rfl,gKk i8 rfl,gKk i9 rfl,gKk i11 rfl,iW⟩
      | 6,_=>
       simp at ho
       subst ho
       obtain rfl:=i0 (hpre 0 (by kernel_rfl))
       obtain rfl:=i3 (hpre 3 (by kernel_rfl))
       obtain rfl:=i4 (hpre 4 (by kernel_rfl))
       obtain rfl:=i5 (hpre 5 (by kernel_rfl))
       go_simp
       refine(HCR.out w' iW.be).mono ?_
       rintro _ w'' ⟨rfl,hb⟩
       exact⟨_,u1,u2,_,_,_,_,u7,u8,u9,u11,rfl,gKk i0 rfl,gKk i1 rfl,gKk i2 rfl,gKk i3 rfl,gKk i4 rfl,gKk i5 rfl,fun _=>rfl,gKk i7 rfl,gKk i8 rfl,gKk i9 rfl,gKk i11 rfl,iW.below hb⟩
      | 7,_=>
       simp at ho
       subst ho
       obtain rfl:=i6 (hpre 6 (by kernel_rfl))
       go_simp
       exact⟨u0,u1,u2,u3,u4,u5,_,_,u8,u9,u11,rfl,gKk i0 rfl,gKk i1 rfl,gKk i2 rfl,gKk i3 rfl,gKk i4 rfl,gKk i5 rfl,gKk i6 rfl,fun _=>rfl,gKk i8 rfl,gKk i9 rfl,gKk i11 rfl,iW⟩
      | 8,_=>
       simp at ho
       subst ho
       obtain rfl:=i7 (hpre 7 (by kernel_rfl))
       go_simp
       exact⟨u0,u1,u2,u3,u4,u5,u6,_,_,u9,u11,rfl,gKk i0 rfl,gKk i1 rfl,gKk i2 rfl,gKk i3 rfl,gKk i4 rfl,gKk i5 rfl,gKk i6 rfl,gKk i7 rfl,fun _=>rfl,gKk i9 rfl,gKk i11 rfl,iW⟩
      | 9,_=>
       simp at ho
       subst ho
       obtain rfl:=i7 (hpre 7 (by kernel_rfl))
       go_simp
       exact⟨u0,u1,u2,u3,u4,u5,u6,_,u8,_,u11,rfl,gKk i0 rfl,gKk i1 rfl,gKk i2 rfl,gKk i3 rfl,gKk i4 rfl,gKk i5 rfl,gKk i6 rfl,gKk i7 rfl,gKk i8 rfl,fun _=>rfl,gKk i11 rfl,iW⟩
      | 10,_=>
       simp at ho
       subst ho
       obtain rfl:=i8 (hpre 8 (by kernel_rfl))
       refine wp_store_row 47 (.tmp 6) (.tmp 35) rfl (w.heap.size+1) (bl VA).toArray rfl rfl 47 _ iW.f (size_bl' _) rfl (bl_all _) ?_
       exact⟨u0,u1,u2,u3,u4,u5,u6,u7,_,u9,u11,rfl,gKk i0 rfl,gKk i1 rfl,gKk i2 rfl,gKk i3 rfl,gKk i4 rfl,gKk i5 rfl,gKk i6 rfl,gKk i7 rfl,gKk i8 rfl,gKk i9 rfl,gKk i11 rfl,iW.put VA⟩
      | 11,_=>
       simp at ho
       subst ho
       obtain rfl:=i9 (hpre 9 (by kernel_rfl))
       go_simp
       exact⟨u0,u1,u2,u3,u4,u5,u6,u7,u8,_,_,rfl,gKk i0 rfl,gKk i1 rfl,gKk i2 rfl,gKk i3 rfl,gKk i4 rfl,gKk i5 rfl,gKk i6 rfl,gKk i7 rfl,gKk i8 rfl,gKk i9 rfl,fun _=>rfl,iW⟩
      | i+12,h=>omega
     rintro L a' w5 hall ⟨u0,u1,u2,u3,u4,u5,u6,u7,u8,u9,u11,rfl,i0,i1,i2,i3,i4,i5,i6,i7,i8,i9,i11,iW⟩
     obtain rfl:=i0 (hall 0 (by omega))
     obtain rfl:=i1 (hall 1 (by omega))
     obtain rfl:=i2 (hall 2 (by omega))
     obtain rfl:=i3 (hall 3 (by omega))
     obtain rfl:=i4 (hall 4 (by omega))
     obtain rfl:=i5 (hall 5 (by omega))
     obtain rfl:=i6 (hall 6 (by omega))
     obtain rfl:=i7 (hall 7 (by omega))
     obtain rfl:=i8 (hall 8 (by omega))
     obtain rfl:=i9 (hall 9 (by omega))
     obtain rfl:=i11 (hall 11 (by omega))
     have hG:=iW
     rw[hall 10 (by omega),if_pos rfl] at hG
     clear iW
     clear i0 i1 i2 i3 i4 i5 i6 i7 i8 i9 i11 hall
     simp only[List.drop_succ_cons,List.drop_zero]
     refine wpList_nil ?_
     have hcB:=Pt.cB_pt hG.p
     have hz:=hG.f
     have r5:=row_all hG.f
     clear HGI HRA HHL HCB HRB HCR HTB hix
     rcases HCA.out with ⟨hd,e3⟩ | ⟨hd,hga,e0,ev⟩ | ⟨hd,hga,e2⟩
     ·have hRR:=Lib.hid (G3.out hd)
      clear hd
      subst e3
      go_wp2_with (first
       | (refine wpList_buildTo rfl 47 #[] rfl _ rfl (bl fun _=>0).toArray builtB ?_; simp only[Act.put,aA])
       | (refine wpList_store_row rfl 47 (.tmp 6) (.tmp 58) rfl (w.heap.size+1) (bl fun _=>0).toArray rfl rfl 47 _ hz (size_bl' _) rfl (bl_all _) ?_; simp only[Act.put]))
      refine bodyPost_ret (results_gt rfl rfl rfl rfl (setRow_heap _ _ _ _ _ _ hz)) rfl ?_
      have hB:=below_only hG.be (Nat.le_succ _) (gR (B:=w.heap.size+1) (bl fun _=>0).toArray)
      exact⟨by rw[hRR.out]; try rfl,oB hB,by rw[hRR.out]; exact HTT.out _ hB⟩
     ·have hRR:=Lib.hid (G4.out hd hga)
      rw[←ev] at hRR
      clear hd hga ev
      subst e0
      go_wp2_with (first
       | (refine @wG _ _ _ _ _ _ _ (by kernel_rfl) 47 (.tmp 6) rfl (w.heap.size+1) 0 rfl (bl VA) _ r5 undB rfl (sB VA) ?_; simp only[Act.put,aA])
       | (refine wpList_store_row rfl 47 (.tmp 6) (.tmp 60) rfl (w.heap.size+1) (bl VA).toArray rfl rfl 47 _ hz (size_bl' _) rfl (bl_all _) ?_; simp only[Act.put]))
      refine bodyPost_ret (results_gt rfl rfl rfl rfl (setRow_heap _ _ _ _ _ _ hz)) rfl ?_
      have hB:=below_only hG.be (Nat.le_succ _) (gR (B:=w.heap.size+1) (bl VA).toArray)
      exact⟨by rw[hRR.out]; try rfl,oB hB,by rw[hRR.out]; exact HTT.out _ hB⟩
     ·have hN:Hid ((∃f,GtW w p f w5)∧(0 < 1→X.d=false∧ga=false)∧(1 < 1→p.B = -1∨gb=false)):=Lib.hid ⟨⟨_,hG⟩,fun _=>⟨hd,hga⟩,fun h=>by omega⟩
      clear hd hga hG
      subst e2
      go_wp2_with fail
      go_roundw
      case rel=>exact⟨1,by omega,rfl,rfl,hN⟩
      case measure=>simp[intOf]
    | 1,_=>
     have hix:=run_index2B p.A p.B
     obtain⟨hd,hga⟩:=hR.out.2.1 (by omega)
     have HDF:=Lib.hid hd
     have HGA:=Lib.hid hga
     clear hd hga
     by_cases eB:p.B = -1
     ·have e':(p.B == -1)=true:=by simpa using eB
      have hN:Hid ((∃f,GtW w p f wr)∧(0 < 2→X.d=false∧ga=false)∧(1 < 2→p.B = -1∨gb=false)):=Lib.hid ⟨⟨_,HGR.out⟩,fun _=>⟨HDF.out,HGA.out⟩,fun _=>.inl eB⟩
      clear eB
      go_wp2_with fail
      go_roundw
      case rel=>exact⟨2,by omega,rfl,rfl,hN⟩
      case measure=>simp[intOf]
     ·have e':(p.B == -1)=false:=by simpa using eB
      have HEB:=Lib.hid eB
      replace HCB:=Lib.hid (HCB.out (HOB.out.resolve_left eB))
      have HCR:=HRB
      clear eB
      go_wp2_with fail
      refine QuietTail2.regionInv (n:=12) (Inv:=GtI _ _ _ _ _ _ _ _ _ _ _ _ _ _ _ _ _ _ _ _ _ _ _ _ _ _ _ _ _ _ _ _ _ _ _ _ _ _ _ _ _ _ _ _ _ _ _ _ w ⟨g.b,g.o,none⟩ ⟨g.b,g.o+4,none⟩ p p.B gen pa k cap VB f0 EB) (by kernel_rfl) (by decide) (by kernel_rfl) ⟨_,_,_,_,_,_,_,_,_,_,_,rfl,by simp,by simp,by simp,by simp,by simp,by simp,by simp,by simp,by simp,by simp,by simp,HGI.out⟩ ?stepS ?finS
      case stepS=>
       rintro i o hi ho L a' w' ⟨u0,u1,u2,u3,u4,u5,u6,u7,u8,u9,u11,rfl,i0,i1,i2,i3,i4,i5,i6,i7,i8,i9,i11,iW⟩ hL hpre
       match i,hi with
       | 0,_=>
        simp at ho
        subst ho
        go_simp
        exact⟨_,u1,u2,u3,u4,u5,u6,u7,u8,u9,u11,rfl,fun _=>rfl,gKk i1 rfl,gKk i2 rfl,gKk i3 rfl,gKk i4 rfl,gKk i5 rfl,gKk i6 rfl,gKk i7 rfl,gKk i8 rfl,gKk i9 rfl,gKk i11 rfl,iW⟩
       | 1,_=>
        simp at ho
        subst ho
        go_simp
        exact⟨u0,_,u2,u3,u4,u5,u6,u7,u8,u9,u11,rfl,gKk i0 rfl,fun _=>rfl,gKk i2 rfl,gKk i3 rfl,gKk i4 rfl,gKk i5 rfl,gKk i6 rfl,gKk i7 rfl,gKk i8 rfl,gKk i9 rfl,gKk i11 rfl,iW⟩
       | 2,_=>
        simp at ho
        subst ho
        obtain rfl:=i1 (hpre 1 (by kernel_rfl))
        go_simp
        exact⟨u0,_,_,u3,u4,u5,u6,u7,u8,u9,u11,rfl,gKk i0 rfl,gKk i1 rfl,fun _=>rfl,gKk i3 rfl,gKk i4 rfl,gKk i5 rfl,gKk i6 rfl,gKk i7 rfl,gKk i8 rfl,gKk i9 rfl,gKk i11 rfl,iW⟩
       | 3,_=>
        simp at ho
        subst ho
        obtain rfl:=i2 (hpre 2 (by kernel_rfl))
        obtain⟨k0,k1⟩:=HTB.out w' iW.be
        go_simp
        exact⟨u0,u1,_,_,u4,u5,u6,u7,u8,u9,u11,rfl,gKk i0 rfl,gKk i1 rfl,gKk i2 rfl,fun _=>rfl,gKk i4 rfl,gKk i5 rfl,gKk i6 rfl,gKk i7 rfl,gKk i8 rfl,gKk i9 rfl,gKk i11 rfl,iW⟩
       | 4,_=>
        simp at ho
        subst ho
        refine wp_load_mid 24 (.tmp 5) rfl w.heap.size 0 rfl (Pt.pV p) _ (Pt.rP iW.p) Pt.undP rfl (Pt.sizeP p) ?_
        simp only[Act.put,aA]
        exact⟨u0,u1,u2,u3,_,u5,u6,u7,u8,u9,u11,rfl,gKk i0 rfl,gKk i1 rfl,gKk i2 rfl,gKk i3 rfl,fun _=>rfl,gKk i5 rfl,gKk i6 rfl,gKk i7 rfl,gKk i8 rfl,gKk i9 rfl,gKk i11 rfl,iW⟩
       | 5,_=>
        simp at ho
        subst ho
        go_simp
        exact⟨u0,u1,u2,u3,u4,_,u6,u7,u8,u9,u11,rfl,gKk i0 rfl,gKk i1 rfl,gKk i2 rfl,gKk i3 rfl,gKk i4 rfl,fun _=>rfl,gKk i6 rfl,gKk i7 rfl,gKk i8 rfl,gKk i9 rfl,gKk i11 rfl,iW⟩
       | 6,_=>
        simp at ho
        subst ho
        obtain rfl:=i0 (hpre 0 (by kernel_rfl))
        obtain rfl:=i3 (hpre 3 (by kernel_rfl))
        obtain rfl:=i4 (hpre 4 (by kernel_rfl))
        obtain rfl:=i5 (hpre 5 (by kernel_rfl))
        go_simp
        refine(HCR.out w' iW.be).mono ?_
        rintro _ w'' ⟨rfl,hb⟩
        exact⟨_,u1,u2,_,_,_,_,u7,u8,u9,u11,rfl,gKk i0 rfl,gKk i1 rfl,gKk i2 rfl,gKk i3 rfl,gKk i4 rfl,gKk i5 rfl,fun _=>rfl,gKk i7 rfl,gKk i8 rfl,gKk i9 rfl,gKk i11 rfl,iW.below hb⟩
       | 7,_=>
        simp at ho
        subst ho
        obtain rfl:=i6 (hpre 6 (by kernel_rfl))
        go_simp
        exact⟨u0,u1,u2,u3,u4,u5,_,_,u8,u9,u11,rfl,gKk i0 rfl,gKk i1 rfl,gKk i2 rfl,gKk i3 rfl,gKk i4 rfl,gKk i5 rfl,gKk i6 rfl,fun _=>rfl,gKk i8 rfl,gKk i9 rfl,gKk i11 rfl,iW⟩
       | 8,_=>
        simp at ho
        subst ho
        obtain rfl:=i7 (hpre 7 (by kernel_rfl))
        go_simp
        exact⟨u0,u1,u2,u3,u4,u5,u6,_,_,u9,u11,rfl,gKk i0 rfl,gKk i1 rfl,gKk i2 rfl,gKk i3 rfl,gKk i4 rfl,gKk i5 rfl,gKk i6 rfl,gKk i7 rfl,fun _=>rfl,gKk i9 rfl,gKk i11 rfl,iW⟩
       | 9,_=>
        simp at ho
        subst ho
        obtain rfl:=i7 (hpre 7 (by kernel_rfl))
        go_simp
        exact⟨u0,u1,u2,u3,u4,u5,u6,_,u8,_,u11,rfl,gKk i0 rfl,gKk i1 rfl,gKk i2 rfl,gKk i3 rfl,gKk i4 rfl,gKk i5 rfl,gKk i6 rfl,gKk i7 rfl,gKk i8 rfl,fun _=>rfl,gKk i11 rfl,iW⟩
       | 10,_=>
        simp at ho
        subst ho
        obtain rfl:=i8 (hpre 8 (by kernel_rfl))
        refine wp_store_row 47 (.tmp 6) (.tmp 35) rfl (w.heap.size+1) (bl VB).toArray rfl rfl 47 _ iW.f (size_bl' _) rfl (bl_all _) ?_
        exact⟨u0,u1,u2,u3,u4,u5,u6,u7,_,u9,u11,rfl,gKk i0 rfl,gKk i1 rfl,gKk i2 rfl,gKk i3 rfl,gKk i4 rfl,gKk i5 rfl,gKk i6 rfl,gKk i7 rfl,gKk i8 rfl,gKk i9 rfl,gKk i11 rfl,iW.put VB⟩
       | 11,_=>
        simp at ho
        subst ho
        obtain rfl:=i9 (hpre 9 (by kernel_rfl))
        go_simp
        exact⟨u0,u1,u2,u3,u4,u5,u6,u7,u8,_,_,rfl,gKk i0 rfl,gKk i1 rfl,gKk i2 rfl,gKk i3 rfl,gKk i4 rfl,gKk i5 rfl,gKk i6 rfl,gKk i7 rfl,gKk i8 rfl,gKk i9 rfl,fun _=>rfl,iW⟩
       | i+12,h=>omega
      rintro L a' w5 hall ⟨u0,u1,u2,u3,u4,u5,u6,u7,u8,u9,u11,rfl,i0,i1,i2,i3,i4,i5,i6,i7,i8,i9,i11,iW⟩
      obtain rfl:=i0 (hall 0 (by omega))
      obtain rfl:=i1 (hall 1 (by omega))
      obtain rfl:=i2 (hall 2 (by omega))
      obtain rfl:=i3 (hall 3 (by omega))
      obtain rfl:=i4 (hall 4 (by omega))
      obtain rfl:=i5 (hall 5 (by omega))
      obtain rfl:=i6 (hall 6 (by omega))
      obtain rfl:=i7 (hall 7 (by omega))
      obtain rfl:=i8 (hall 8 (by omega))
      obtain rfl:=i9 (hall 9 (by omega))
      obtain rfl:=i11 (hall 11 (by omega))
      have hG:=iW
      rw[hall 10 (by omega),if_pos rfl] at hG
      clear iW
      clear i0 i1 i2 i3 i4 i5 i6 i7 i8 i9 i11 hall
      simp only[List.drop_succ_cons,List.drop_zero]
      refine wpList_nil ?_
      have hcA:=Pt.cA_pt hG.p
      have hcB:=Pt.cB_pt hG.p
      have hz:=hG.f
      have r5:=row_all hG.f
      clear HGI HRA HRB HCR HTB hix HCA
      rcases HCB.out with ⟨hd,_⟩ | ⟨hd,hgb',e0,ev⟩ | ⟨hd,hgb',e2⟩
      ·rw[HDF.out] at hd; cases hd
      ·have hRR:=Lib.hid (G6.out hd HGA.out HEB.out hgb')
       rw[←ev] at hRR
       clear hd hgb' ev
       subst e0
       have HH:=Lib.hid (HHL.out w5 hG.be VB)
       have hw:=HWR.out p.A VB HRI.out
       unfold Healed at HH
       generalize wRes n X ⟨gen,k,F,T⟩ p.A VB=Q at HH hRR hw
       obtain⟨E,X',M'⟩:=Q
       dsimp only at HH hw
       have HW:=Lib.hid hw
       have HB5:=Lib.hid hG.be
       have HP5:=Lib.hid hG
       clear hw hG HHL HWR
       go_wp2_with (refine @wG _ _ _ _ _ _ _ (by kernel_rfl) 47 (.tmp 6) rfl (w.heap.size+1) 0 rfl (bl VB) _ r5 undB rfl (sB VB) ?_; simp only[Act.put,aA])
       refine HH.out.mono ?_
       rintro _ w6 ⟨rfl,hT6,hD6⟩
       have hs5:=Array.getElem?_eq_some_iff.1 hz
       have hz6:=(hT6.block (w.heap.size+1) hs5.1 (by simp; omega)).trans hz
       have hT6':w.grownBy w6 (some g.b):=Dk.oT (oB HB5.out) hT6
       have r6:=row_all hz6
       clear HH hT6 hz r5 hcA hcB hs5
       dsimp only
       by_cases e3:E=3
       ·subst e3
        have hRR':Hid (R=⟨fun _=>0,0,3,X',M'⟩):=Lib.hid (by rw[hRR.out]; try rfl)
        have hh:hlE 3=3:=rfl
        clear hRR
        go_wp2_with (first
         | (refine wpList_buildTo rfl 47 #[] rfl _ rfl (bl fun _=>0).toArray builtB ?_; simp only[Act.put,aA])
         | (refine wpList_store_row rfl 47 (.tmp 6) (.tmp 58) rfl (w.heap.size+1) (bl fun _=>0).toArray rfl rfl 47 _ hz6 (size_bl' _) rfl (bl_all _) ?_; simp only[Act.put]))
        refine bodyPost_ret (results_gt rfl rfl rfl rfl (setRow_heap _ _ _ _ _ _ hz6)) rfl ?_
        exact⟨by rw[hRR'.out]; try rfl,grown_only hT6' (Nat.le_succ _) (gR _),by rw[hRR'.out]; exact hasV_only hD6 HW.out hz6 (bl_le _) (bl_small _) (by omega) (gR _)⟩
       ·have hRR':Hid (R=⟨VB,hlH E,0,X',M'⟩):=Lib.hid (by rw[hRR.out]; exact if_neg e3)
        have hh:hlE E=0:=if_neg e3
        clear hRR e3
        generalize hlH E=hE at hRR' ⊢
        generalize hlE E=eE at hh ⊢
        subst hh
        go_wp2_with (first
         | (refine @wG _ _ _ _ _ _ _ (by kernel_rfl) 47 (.tmp 6) rfl (w.heap.size+1) 0 rfl (bl VB) _ r6 undB rfl (sB VB) ?_; simp only[Act.put,aA])
         | (refine wpList_store_row rfl 47 (.tmp 6) (.tmp 60) rfl (w.heap.size+1) (bl VB).toArray rfl rfl 47 _ hz6 (size_bl' _) rfl (bl_all _) ?_; simp only[Act.put]))
        refine bodyPost_ret (results_gt rfl rfl rfl rfl (setRow_heap _ _ _ _ _ _ hz6)) rfl ?_
        exact⟨by rw[hRR'.out]; try rfl,grown_only hT6' (Nat.le_succ _) (gR _),by rw[hRR'.out]; exact hasV_only hD6 HW.out hz6 (bl_le _) (bl_small _) (by omega) (gR _)⟩
      ·have hN:Hid ((∃f,GtW w p f w5)∧(0 < 2→X.d=false∧ga=false)∧(1 < 2→p.B = -1∨gb=false)):=Lib.hid ⟨⟨_,hG⟩,fun _=>⟨HDF.out,HGA.out⟩,fun _=>.inr hgb'⟩
       clear hd hgb' hG
       subst e2
       go_wp2_with fail
       go_roundw
       case rel=>exact⟨2,by omega,rfl,rfl,hN⟩
       case measure=>simp[intOf]
    | 2,_=>
     obtain⟨hd,hga⟩:=hR.out.2.1 (by omega)
     have hRR:=Lib.hid (G5.out hd hga (hR.out.2.2 (by omega)))
     have hz:=HGR.out.f
     clear hd hga hR
     go_wp2_with (first
      | (refine wpList_buildTo rfl 47 #[] rfl _ rfl (bl fun _=>0).toArray builtB ?_; simp only[Act.put,aA])
      | (refine wpList_store_row rfl 47 (.tmp 6) (.tmp 63) rfl (w.heap.size+1) (bl fun _=>0).toArray rfl rfl 47 _ hz (size_bl' _) rfl (bl_all _) ?_; simp only[Act.put]))
     refine bodyPost_ret (results_gt rfl rfl rfl rfl (setRow_heap _ _ _ _ _ _ hz)) rfl ?_
     have hB:=below_only HGR.out.be (Nat.le_succ _) (gR (B:=w.heap.size+1) (bl fun _=>0).toArray)
     exact⟨by rw[hRR.out]; try rfl,oB hB,by rw[hRR.out]; exact HTT.out _ hB⟩
    | c+3,h=>omega
end Di
end Go.Proofs.YteaocagepfgfnaaGreatDoor
