import Derived.Test.YteaocagepfgfnaaGreatDoorPStX
import Derived.Test.YteaocagepfgfnaaGreatDoorPStDf
import Derived.Test.YteaocagepfgfnaaGreatDoorPAl
set_option maxRecDepth 100000
set_option maxHeartbeats 8000000
namespace Go.Proofs.YteaocagepfgfnaaGreatDoor
namespace St
open Go.RowKit Dk Gm Eqb Rm Di Vl Qv Sp
open Vm (HasVol vM)
attribute [local go_sem] Pt.zvP Pt.zv3 zv29
attribute [local go_sem] Pt.zc3 zc29
attribute [local irreducible] wpQuiet
variable {q:Qt}{X X':Dst}{f f':Nat→Int}
def LhInv(x3 x4 x12 x13 x14 x15 x16 x17 x18 x19 x20 x21 x22 x23 x24 x25 x26 x27 x28 x29 x30 x31 x32 x33:Value)(w W:World)(V:Pl)(wb:Nat)(gv:Value)(q:Qt)(X:Dst)(f:Nat→Int)(G:List Pt.Pn)(bi bb:Nat)(p:Pt.Pn)(s0 c0 li:Int)(L:Nat→Bool)(a':Act)(w':World):Prop:=
 ∃u0 u1 u2 u3 u4 u5 u6,a'={ tmps:=#[.pointer (some ⟨wb,0,none⟩),.pointer (some ⟨bi,0,none⟩),.pointer (some ⟨bb,0,none⟩),x3,x4,u0,u1,u2,u3,u4,u5,u6,x12,x13,x14,x15,x16,x17,x18,x19,x20,x21,x22,x23,x24,x25,x26,x27,x28,x29,x30,x31,x32,x33],defers:=[] }∧Fa L [(0,u0,.pointer (some ⟨wb,0,none⟩)),(1,u1,.pointer (some ⟨wb,0,none⟩)),(2,u2,.pointer (some ⟨wb,1,none⟩)),(3,u3,.agg (sV p s0 c0).toArray),(4,u4,.int .i64 li),(5,u5,.bool (hsB s0 li)),(6,u6,.bool (!hsB s0 li))]∧Od L []∧Ps w W V wb gv q X f (sV p s0 c0) G w'
def Lk3Inv(x3 x5 x6 x7 x8 x9 x10 x11 x33:Value)(w W:World)(V:Pl)(wb:Nat)(gv:Value)(q:Qt)(X:Dst)(f:Nat→Int)(X':Dst)(f':Nat→Int)(G G':List Pt.Pn)(bi bb:Nat)(p p2:Pt.Pn)(s0 c0 li d:Int)(D:Nat→Int)(E1:Int)(L:Nat→Bool)(a':Act)(w':World):Prop:=
 ∃u0 u1 u2 u3 u4 u5 u6 u7 u8 u9 u10 u11 u12 u13 u14 u15 u16 u17 u18 u19 u20 u22,a'={ tmps:=#[.pointer (some ⟨wb,0,none⟩),.pointer (some ⟨bi,0,none⟩),.pointer (some ⟨bb,0,none⟩),x3,u22,x5,x6,x7,x8,x9,x10,x11,u15,u0,u1,u2,u3,u4,u5,u6,u7,u8,u9,u10,u11,u12,u13,u14,u16,u17,u18,u19,u20,x33],defers:=[] }∧Fa L [(0,u0,.pointer (some ⟨wb,0,none⟩)),(1,u1,.pointer (some ⟨wb,0,none⟩)),(2,u2,.pointer (some ⟨wb,0,none⟩)),(3,u3,.pointer (some ⟨wb,0,none⟩)),(4,u4,.pointer (some ⟨wb,1,none⟩)),(5,u5,.pointer (some ⟨wb,1,none⟩)),(6,u6,.agg (Pt.pV p).toArray),(7,u7,.pointer (some ⟨wb,0,none⟩)),(8,u8,.pointer (some ⟨wb,0,none⟩)),(9,u9,.pointer (some ⟨wb,1,none⟩)),(10,u10,.agg (sV p s0 c0).toArray),(11,u11,.int .i64 d),(12,u12,.int .i64 li),(13,u13,.agg (bl D).toArray),(14,u14,.tuple #[.agg (Pt.pV p2).toArray,.int .i64 E1]),(15,u15,.tuple #[.agg (Pt.pV p2).toArray,.int .i64 E1]),(16,u16,.agg (Pt.pV p2).toArray),(17,u17,.int .i64 E1),(18,u18,.pointer (some ⟨wb,0,none⟩)),(19,u19,.pointer (some ⟨wb,1,none⟩)),(20,u20,.pointer (some ⟨wb,1,none⟩)),(22,u22,.int .i64 E1)]∧Od L [(14,6),(14,11),(14,12),(14,13),(11,10),(14,1)]∧Pd w W V wb gv q X f X' f' G G' p p2 s0 c0 (L 14) (L 21) w'
theorem layf_go{w:World}{V:Pl}{wb:Nat}{gv:Value}{p:Pt.Pn}{s0 c0:Int}{G:List Pt.Pn}(hw:Wt w V wb gv q X f (sV p s0 c0) gv G w)(hs:s0≤9223372036854775807){bi bb:Nat}{li:Int}{D:Nat→Int}(ki:Lk V wb gv w bi)(ri:w.heap[bi]?=some (.cells #[.int .i64 li] 3 (0,0)))(kb:Lk V wb gv w bb)(rb:w.heap[bb]?=some (.cells (bl D).toArray 47 (0,0)))(hn:hsB s0 li=true){p2:Pt.Pn}{E1:Int}{G':List Pt.Pn}(HLAY:∀w',Wt w V wb gv q X f (sV p s0 c0) gv G w'→Calls Tryz.prog 47 #[.pointer (some ⟨wb,0,none⟩),.agg (Pt.pV p).toArray,.int .i64 (dpN (lvI s0).toNat:Int),.int .i64 li,.agg (bl D).toArray] w' fun e w''=>∃gv2,e=.returned (.tuple #[.agg (Pt.pV p2).toArray,.int .i64 E1])∧Wt w' V wb gv q X' f' (sV p s0 c0) gv2 G' w'') :
  Calls Tryz.prog 46 #[.pointer (some ⟨wb,0,none⟩),.pointer (some ⟨bi,0,none⟩),.pointer (some ⟨bb,0,none⟩)] w fun e w'=>∃gv2,e=.returned (.int .i64 E1)∧Wt w V wb gv q X' f' (sV p2 s0 c0) gv2 G' w':=by
 have HWT:=Lib.hid hw
 have HN:=Lib.hid hn
 clear hn
 have HH:=Lib.hid (fun w'=>has_any p s0 c0 li hs w')
 have Ki:=Lib.hid ki
 have Ri:=Lib.hid ri
 have HD:=Lib.hid (fun w'=>depthof_any p s0 c0 hs w')
 have HL:=Lib.hid HLAY
 have HKB:=Lib.hid (And.intro kb rb)
 clear ki ri kb rb hw HLAY
 go_enter Tryz.func46,Tryz.ntmps46
 go_wp2_with fail
 refine QuietTail2.regionInv (n:=7) (Inv:=LhInv _ _ _ _ _ _ _ _ _ _ _ _ _ _ _ _ _ _ _ _ _ _ _ _ w w V wb gv q X f G bi bb p s0 c0 li) (by kernel_rfl) (by decide) (by kernel_rfl) ⟨_,_,_,_,_,_,_,rfl,Fa.none _,Od.none _,?_⟩ ?step ?fin
 exact Ps.start HWT.out
 case step=>
  rintro i o hi ho L a' w' ⟨u0,u1,u2,u3,u4,u5,u6,rfl,TF,TO,TW⟩ hL hpre
  match i,hi with
  | 0,_=>
   simp at ho
   subst ho
   go_simp
   exact⟨_,u1,u2,u3,u4,u5,u6,rfl,TF.set 0,TO.set 0 trivial,TW⟩
  | 1,_=>
   simp at ho
   subst ho
   obtain rfl:=TF.1 (hpre 0 (by kernel_rfl))
   go_simp
   exact⟨_,_,u2,u3,u4,u5,u6,rfl,TF.set 1,TO.set 1 trivial,TW⟩
  | 2,_=>
   simp at ho
   subst ho
   obtain rfl:=TF.2.1 (hpre 1 (by kernel_rfl))
   go_simp
   exact⟨u0,_,_,u3,u4,u5,u6,rfl,TF.set 2,TO.set 2 trivial,TW⟩
  | 3,_=>
   simp at ho
   subst ho
   obtain rfl:=TF.2.2.1 (hpre 2 (by kernel_rfl))
   refine wp_load_mid 26 (.tmp 7) rfl wb 1 rfl (sV p s0 c0) _ TW.t.rngS undS rfl (sizeS p s0 c0) ?_
   simp only[Act.put,aA]
   exact⟨u0,u1,_,_,u4,u5,u6,rfl,TF.set 3,TO.set 3 trivial,TW⟩
  | 4,_=>
   simp at ho
   subst ho
   have hci:=cO ((TW.k _ Ki.out).1.trans Ri.out)
   go_simp
   exact⟨u0,u1,u2,u3,_,u5,u6,rfl,TF.set 4,TO.set 4 trivial,TW⟩
  | 5,_=>
   simp at ho
   subst ho
   obtain rfl:=TF.2.2.2.1 (hpre 3 (by kernel_rfl))
   obtain rfl:=TF.2.2.2.2.1 (hpre 4 (by kernel_rfl))
   go_simp
   refine(HH.out w').mono ?_
   rintro _ w'' ⟨rfl,hb⟩
   exact⟨u0,u1,u2,_,_,_,u6,rfl,TF.set 5,TO.set 5 trivial,(TW.below hb)⟩
  | 6,_=>
   simp at ho
   subst ho
   obtain rfl:=TF.2.2.2.2.2.1 (hpre 5 (by kernel_rfl))
   go_simp
   exact⟨u0,u1,u2,u3,u4,_,_,rfl,TF.set 6,TO.set 6 trivial,TW⟩
  | i+7,h=>omega
 case fin=>
  rintro L a' w' hall ⟨u0,u1,u2,u3,u4,u5,u6,rfl,TF,TO,hWD⟩
  obtain rfl:=TF.2.2.2.2.2.2.1 (hall 6 (by omega))
  clear TF TO
  refine wpList_nil ?_
  have HW2:=Lib.hid hWD.t
  have HK2:=Lib.hid hWD.k
  clear hWD HWT hall
  rw[HN.out]
  have Ki2:=Lib.hid (HK2.out _ Ki.out).2
  have Ri2:=Lib.hid ((HK2.out _ Ki.out).1.trans Ri.out)
  have Kb:=Lib.hid (HK2.out _ HKB.out.1).2
  have Rb:=Lib.hid ((HK2.out _ HKB.out.1).1.trans HKB.out.2)
  clear HK2 Ki Ri HKB HH
  have Ki:=Ki2
  have Ri:=Ri2
  clear Ki2 Ri2
  go_wp2_with fail
  refine QuietTail2.regionInv (n:=23) (Inv:=Lk3Inv _ _ _ _ _ _ _ _ _ w w' V wb gv q X f X' f' G G' bi bb p p2 s0 c0 li (dpN (lvI s0).toNat:Int) D E1) (by kernel_rfl) (by decide) (by kernel_rfl) ⟨_,_,_,_,_,_,_,_,_,_,_,_,_,_,_,_,_,_,_,_,_,_,rfl,Fa.none _,Od.none _,?_⟩ ?step ?fin
  exact Pd.start HW2.out
  case step=>
   rintro i o hi ho L a' w' ⟨u0,u1,u2,u3,u4,u5,u6,u7,u8,u9,u10,u11,u12,u13,u14,u15,u16,u17,u18,u19,u20,u22,rfl,TF,TO,TW⟩ hL hpre
   match i,hi with
   | 0,_=>
    simp at ho
    subst ho
    go_simp
    exact⟨_,u1,u2,u3,u4,u5,u6,u7,u8,u9,u10,u11,u12,u13,u14,u15,u16,u17,u18,u19,u20,u22,rfl,TF.set 0,TO.set 0 trivial,TW⟩
   | 1,_=>
    simp at ho
    subst ho
    have hn14:L 14=false:=by cases e:L 14 with | false=>rfl | true=>exact absurd (TO.2.2.2.2.2.1 e) (by rw[hL]; decide)
    go_simp
    exact⟨u0,_,u2,u3,u4,u5,u6,u7,u8,u9,u10,u11,u12,u13,u14,u15,u16,u17,u18,u19,u20,u22,rfl,TF.set 1,TO.set 1 trivial,TW⟩
   | 2,_=>
    simp at ho
    subst ho
    go_simp
    exact⟨u0,u1,_,u3,u4,u5,u6,u7,u8,u9,u10,u11,u12,u13,u14,u15,u16,u17,u18,u19,u20,u22,rfl,TF.set 2,TO.set 2 trivial,TW⟩
   | 3,_=>
    simp at ho
    subst ho
    obtain rfl:=TF.2.2.1 (hpre 2 (by kernel_rfl))
    go_simp
    exact⟨u0,u1,_,_,u4,u5,u6,u7,u8,u9,u10,u11,u12,u13,u14,u15,u16,u17,u18,u19,u20,u22,rfl,TF.set 3,TO.set 3 trivial,TW⟩
   | 4,_=>
    simp at ho
    subst ho
    obtain rfl:=TF.2.2.2.1 (hpre 3 (by kernel_rfl))
    go_simp
    exact⟨u0,u1,u2,_,_,u5,u6,u7,u8,u9,u10,u11,u12,u13,u14,u15,u16,u17,u18,u19,u20,u22,rfl,TF.set 4,TO.set 4 trivial,TW⟩
   | 5,_=>
    simp at ho
    subst ho
    obtain rfl:=TF.2.2.2.2.1 (hpre 4 (by kernel_rfl))
    go_simp
    exact⟨u0,u1,u2,u3,_,_,u6,u7,u8,u9,u10,u11,u12,u13,u14,u15,u16,u17,u18,u19,u20,u22,rfl,TF.set 5,TO.set 5 trivial,TW⟩
   | 6,_=>
    simp at ho
    subst ho
    obtain rfl:=TF.2.2.2.2.2.1 (hpre 5 (by kernel_rfl))
    have hn14:L 14=false:=by cases e:L 14 with | false=>rfl | true=>exact absurd (TO.1 e) (by rw[hL]; decide)
    refine wp_load_mid 24 (.tmp 18) rfl wb 1 rfl (Pt.pV p) _ (TW.t0 hn14).t.rngP Pt.undP rfl (Pt.sizeP p) ?_
    simp only[Act.put,aA]
    exact⟨u0,u1,u2,u3,u4,_,_,u7,u8,u9,u10,u11,u12,u13,u14,u15,u16,u17,u18,u19,u20,u22,rfl,TF.set 6,TO.set 6 trivial,TW⟩
   | 7,_=>
    simp at ho
    subst ho
    go_simp
    exact⟨u0,u1,u2,u3,u4,u5,u6,_,u8,u9,u10,u11,u12,u13,u14,u15,u16,u17,u18,u19,u20,u22,rfl,TF.set 7,TO.set 7 trivial,TW⟩
   | 8,_=>
    simp at ho
    subst ho
    obtain rfl:=TF.2.2.2.2.2.2.2.1 (hpre 7 (by kernel_rfl))
    go_simp
    exact⟨u0,u1,u2,u3,u4,u5,u6,_,_,u9,u10,u11,u12,u13,u14,u15,u16,u17,u18,u19,u20,u22,rfl,TF.set 8,TO.set 8 trivial,TW⟩
   | 9,_=>
    simp at ho
    subst ho
    obtain rfl:=TF.2.2.2.2.2.2.2.2.1 (hpre 8 (by kernel_rfl))
    go_simp
    exact⟨u0,u1,u2,u3,u4,u5,u6,u7,_,_,u10,u11,u12,u13,u14,u15,u16,u17,u18,u19,u20,u22,rfl,TF.set 9,TO.set 9 trivial,TW⟩
   | 10,_=>
    simp at ho
    subst ho
    obtain rfl:=TF.2.2.2.2.2.2.2.2.2.1 (hpre 9 (by kernel_rfl))
    have hn11:L 11=false:=by cases e:L 11 with | false=>rfl | true=>exact absurd (TO.2.2.2.2.1 e) (by rw[hL]; decide)
    have hn14:L 14=false:=by cases e:L 14 with | false=>rfl | true=>exact absurd (TO.2.1 e) (by rw[hn11]; decide)
    refine wp_load_mid 26 (.tmp 22) rfl wb 1 rfl (sV p s0 c0) _ (TW.t0 hn14).t.rngS undS rfl (sizeS p s0 c0) ?_
    simp only[Act.put,aA]
    exact⟨u0,u1,u2,u3,u4,u5,u6,u7,u8,_,_,u11,u12,u13,u14,u15,u16,u17,u18,u19,u20,u22,rfl,TF.set 10,TO.set 10 trivial,TW⟩
   | 11,_=>
    simp at ho
    subst ho
    obtain rfl:=TF.2.2.2.2.2.2.2.2.2.2.1 (hpre 10 (by kernel_rfl))
    have hn14:L 14=false:=by cases e:L 14 with | false=>rfl | true=>exact absurd (TO.2.1 e) (by rw[hL]; decide)
    go_simp
    refine(HD.out w').mono ?_
    rintro _ w'' ⟨rfl,hb⟩
    exact⟨u0,u1,u2,u3,u4,u5,u6,u7,u8,u9,_,_,u12,u13,u14,u15,u16,u17,u18,u19,u20,u22,rfl,TF.set 11,TO.set 11 ⟨hpre 10 (by kernel_rfl),trivial⟩,(TW.below hn14 hb)⟩
   | 12,_=>
    simp at ho
    subst ho
    have hn14:L 14=false:=by cases e:L 14 with | false=>rfl | true=>exact absurd (TO.2.2.1 e) (by rw[hL]; decide)
    have hci:=cO (((TW.t0 hn14).k _ Ki.out).1.trans Ri.out)
    go_simp
    exact⟨u0,u1,u2,u3,u4,u5,u6,u7,u8,u9,u10,u11,_,u13,u14,u15,u16,u17,u18,u19,u20,u22,rfl,TF.set 12,TO.set 12 trivial,TW⟩
   | 13,_=>
    simp at ho
    subst ho
    have hn14:L 14=false:=by cases e:L 14 with | false=>rfl | true=>exact absurd (TO.2.2.2.1 e) (by rw[hL]; decide)
    refine wp_load_mid 47 (.tmp 2) rfl bb 0 rfl (bl D) _ (row_all (((TW.t0 hn14).k _ Kb.out).1.trans Rb.out)) undB rfl (sB D) ?_
    simp only[Act.put,aA]
    exact⟨u0,u1,u2,u3,u4,u5,u6,u7,u8,u9,u10,u11,u12,_,u14,u15,u16,u17,u18,u19,u20,u22,rfl,TF.set 13,TO.set 13 trivial,TW⟩
   | 14,_=>
    simp at ho
    subst ho
    obtain rfl:=TF.2.1 (hpre 1 (by kernel_rfl))
    obtain rfl:=TF.2.2.2.2.2.2.1 (hpre 6 (by kernel_rfl))
    obtain rfl:=TF.2.2.2.2.2.2.2.2.2.2.2.1 (hpre 11 (by kernel_rfl))
    obtain rfl:=TF.2.2.2.2.2.2.2.2.2.2.2.2.1 (hpre 12 (by kernel_rfl))
    obtain rfl:=TF.2.2.2.2.2.2.2.2.2.2.2.2.2.1 (hpre 13 (by kernel_rfl))
    go_simp
    refine(HL.out w' (TW.t0 hL).t).mono ?_
    rintro _ w'' ⟨gv2,rfl,hT⟩
    exact⟨u0,_,u2,u3,u4,u5,_,u7,u8,u9,u10,_,_,_,_,u15,u16,u17,u18,u19,u20,u22,rfl,TF.set 14,TO.set 14 ⟨hpre 6 (by kernel_rfl),hpre 11 (by kernel_rfl),hpre 12 (by kernel_rfl),hpre 13 (by kernel_rfl),hpre 1 (by kernel_rfl),trivial⟩,(TW.call hL hT)⟩
   | 15,_=>
    simp at ho
    subst ho
    obtain rfl:=TF.2.2.2.2.2.2.2.2.2.2.2.2.2.2.1 (hpre 14 (by kernel_rfl))
    go_simp
    exact⟨u0,u1,u2,u3,u4,u5,u6,u7,u8,u9,u10,u11,u12,u13,_,_,u16,u17,u18,u19,u20,u22,rfl,TF.set 15,TO.set 15 trivial,TW⟩
   | 16,_=>
    simp at ho
    subst ho
    obtain rfl:=TF.2.2.2.2.2.2.2.2.2.2.2.2.2.2.2.1 (hpre 15 (by kernel_rfl))
    go_simp
    exact⟨u0,u1,u2,u3,u4,u5,u6,u7,u8,u9,u10,u11,u12,u13,u14,_,_,u17,u18,u19,u20,u22,rfl,TF.set 16,TO.set 16 trivial,TW⟩
   | 17,_=>
    simp at ho
    subst ho
    obtain rfl:=TF.2.2.2.2.2.2.2.2.2.2.2.2.2.2.2.1 (hpre 15 (by kernel_rfl))
    go_simp
    exact⟨u0,u1,u2,u3,u4,u5,u6,u7,u8,u9,u10,u11,u12,u13,u14,_,u16,_,u18,u19,u20,u22,rfl,TF.set 17,TO.set 17 trivial,TW⟩
   | 18,_=>
    simp at ho
    subst ho
    obtain rfl:=TF.1 (hpre 0 (by kernel_rfl))
    go_simp
    exact⟨_,u1,u2,u3,u4,u5,u6,u7,u8,u9,u10,u11,u12,u13,u14,u15,u16,u17,_,u19,u20,u22,rfl,TF.set 18,TO.set 18 trivial,TW⟩
   | 19,_=>
    simp at ho
    subst ho
    obtain rfl:=TF.2.2.2.2.2.2.2.2.2.2.2.2.2.2.2.2.2.2.1 (hpre 18 (by kernel_rfl))
    go_simp
    exact⟨u0,u1,u2,u3,u4,u5,u6,u7,u8,u9,u10,u11,u12,u13,u14,u15,u16,u17,_,_,u20,u22,rfl,TF.set 19,TO.set 19 trivial,TW⟩
   | 20,_=>
    simp at ho
    subst ho
    obtain rfl:=TF.2.2.2.2.2.2.2.2.2.2.2.2.2.2.2.2.2.2.2.1 (hpre 19 (by kernel_rfl))
    go_simp
    exact⟨u0,u1,u2,u3,u4,u5,u6,u7,u8,u9,u10,u11,u12,u13,u14,u15,u16,u17,u18,_,_,u22,rfl,TF.set 20,TO.set 20 trivial,TW⟩
   | 21,_=>
    simp at ho
    subst ho
    obtain rfl:=TF.2.2.2.2.2.2.2.2.2.2.2.2.2.2.2.2.1 (hpre 16 (by kernel_rfl))
    obtain rfl:=TF.2.2.2.2.2.2.2.2.2.2.2.2.2.2.2.2.2.2.2.2.1 (hpre 20 (by kernel_rfl))
    refine wp_store_mid 24 (.tmp 32) (.tmp 28) rfl wb 1 (Pt.pV p2).toArray rfl rfl (TW.thereP (hpre 14 (by kernel_rfl)) hL) (Pt.sizeP' _) (Pt.pV_all _) ?_
    simp only[Act.put]
    exact⟨u0,u1,u2,u3,u4,u5,u6,u7,u8,u9,u10,u11,u12,u13,u14,u15,_,u17,u18,u19,_,u22,rfl,TF.set 21,TO.set 21 trivial,(TW.store (hpre 14 (by kernel_rfl)) hL)⟩
   | 22,_=>
    simp at ho
    subst ho
    obtain rfl:=TF.2.2.2.2.2.2.2.2.2.2.2.2.2.2.2.2.2.1 (hpre 17 (by kernel_rfl))
    go_simp
    exact⟨u0,u1,u2,u3,u4,u5,u6,u7,u8,u9,u10,u11,u12,u13,u14,u15,u16,_,u18,u19,u20,_,rfl,TF.set 22,TO.set 22 trivial,TW⟩
   | i+23,h=>omega
  case fin=>
   rintro L a' w' hall ⟨u0,u1,u2,u3,u4,u5,u6,u7,u8,u9,u10,u11,u12,u13,u14,u15,u16,u17,u18,u19,u20,u22,rfl,TF,TO,hWD⟩
   rw[hall 14 (by omega),hall 21 (by omega)] at hWD
   obtain rfl:=TF.2.2.2.2.2.2.2.2.2.2.2.2.2.2.2.2.2.2.2.2.2.1 (hall 22 (by omega))
   clear TF TO
   refine wpList_nil ?_
   obtain⟨gv2,k1⟩:=hWD.t1 rfl
   have HKF:=Lib.hid k1
   clear hWD k1 HW2 HL hall
   go_wp2_with fail
   go_ret
   exact⟨rfl,gv2,HKF.out⟩
end St
namespace St
open Go.RowKit Dk Gm Eqb Rm Di Vl Qv Sp
open Vm (HasVol vM)
variable {q:Qt}{X:Dst}
theorem take_drop_last{α:Type}(H:List α)(x:α):(H ++ [x]).take H.length ++ (H ++ [x]).drop (H.length+1)=H:=by simp
theorem nh_cons(p:Pt.Pn)(g:List Pt.Pn):nh (p :: g)=if Pt.isHole p=true then nh g else p :: nh g:=by
 unfold nh
 rw[List.filter_cons]
 cases Pt.isHole p <;> rfl
theorem pV_hole{p:Pt.Pn}(h:Pt.isHole p=true):Pt.pV p=Pt.pV Pt.hole:=by
 obtain⟨h0,h1,h2⟩:=Pt.eqP_iff.1 h
 exact Pt.pV_eq h0 h1 h2
theorem drop_t:∀(G:List Pt.Pn) (f:Nat→Int) (H K gh:List Hd),Py q X f H→H.Perm (K ++ gh)→gh.map Prod.fst=nh G→
  ∃fs:Nat→Nat→Int,fs 0=f∧Py q X (fs G.length) K∧(∀n,Rm2 q f n→Rm2 q (fs G.length) n)∧
   ∀(V:Pl) j p,G[j]?=some p→∀w',Rm.Kp w'→HV w' V q X (fs j)→Calls Tryz.prog 106 #[.pointer (some ⟨V.b,V.o,none⟩),.agg (Pt.pV p).toArray] w' fun e w''=>e=.returned (.int .i64 0)∧TV w' V q X (fs (j+1)) w''
 | [],f,H,K,gh,hP,hp,hm=>by
  have e:gh=[]:=List.map_eq_nil_iff.1 hm
  subst e
  rw[List.append_nil] at hp
  exact⟨fun _=>f,rfl,hP.perm hp,fun n h=>h,fun V j p h=>by simp at h⟩
 | p :: G,f,H,K,gh,hP,hp,hm=>by
  rw[nh_cons] at hm
  have step:∃(f1:Nat→Int) (H1 gh1:List Hd),Py q X f1 H1∧H1.Perm (K ++ gh1)∧gh1.map Prod.fst=nh G∧(∀n,Rm2 q f n→Rm2 q f1 n)∧
    ∀(V:Pl) w',HV w' V q X f→Calls Tryz.prog 106 #[.pointer (some ⟨V.b,V.o,none⟩),.agg (Pt.pV p).toArray] w' fun e w''=>e=.returned (.int .i64 0)∧TV w' V q X f1 w'':=by
   cases hh:Pt.isHole p with
   | true=>
    rw[hh,if_pos rfl] at hm
    have hx:(H ++ [(Pt.hole,zb)])[H.length]?=some (Pt.hole,zb):=by simp
    have hPh:Py q X f (H ++ [(Pt.hole,zb)]):=hP.hole zb_byt zb_zero
    obtain⟨f1,h1,h2,h3⟩:=q_drop hPh hx
    rw[take_drop_last] at h1
    exact⟨f1,H,gh,h1,hp,hm,h2,fun V w' hv=>by rw[pV_hole hh]; exact h3 w' V hv⟩
   | false=>
    rw[hh,if_neg (by decide)] at hm
    obtain⟨x,gh1,rfl,hx,hm1⟩:∃x gh1,gh=x :: gh1∧x.1=p∧gh1.map Prod.fst=nh G:=by
     cases gh with
     | nil=>cases hm
     | cons x gh1=>
      injection hm with a b
      exact⟨x,gh1,rfl,a,b⟩
    have hmem:x ∈ H:=hp.mem_iff.2 (List.mem_append_right _ (List.mem_cons_self))
    obtain⟨m,hm2⟩:=List.getElem?_of_mem hmem
    obtain⟨f1,h1,h2,h3⟩:=q_drop hP hm2
    subst hx
    refine⟨f1,_,gh1,h1,?_,hm1,h2,fun V w' hv=>h3 w' V hv⟩
    have e1:H.Perm (x :: (H.take m ++ H.drop (m+1))):=by
     have hlt:m < H.length:=(List.getElem?_eq_some_iff.1 hm2).1
     have e:H=H.take m ++ x :: H.drop (m+1):=by
      have hxx:H[m]=x:=(List.getElem?_eq_some_iff.1 hm2).2
      rw[←hxx,List.getElem_cons_drop hlt,List.take_append_drop]
     conv=>lhs; rw[e]
     exact List.perm_middle
    have e2:(x :: (H.take m ++ H.drop (m+1))).Perm (x :: (K ++ gh1)):=e1.symm.trans (hp.trans List.perm_middle)
    exact e2.cons_inv
  obtain⟨f1,H1,gh1,a1,a2,a3,a4,a5⟩:=step
  obtain⟨fs,b1,b2,b3,b4⟩:=drop_t G f1 H1 K gh1 a1 a2 a3
  refine⟨fun j=>if j=0 then f else fs (j - 1),rfl,?_,fun n h=>?_,fun V j p' hj w' hk hv=>?_⟩
  ·show Py q X (if G.length+1=0 then f else fs (G.length+1 - 1)) K
   rw[if_neg (by omega)]
   exact b2
  ·show Rm2 q (if G.length+1=0 then f else fs (G.length+1 - 1)) n
   rw[if_neg (by omega)]
   exact b3 n (a4 n h)
  ·show Calls Tryz.prog 106 _ w' fun e w''=>e=.returned (.int .i64 0)∧TV w' V q X (if j+1=0 then f else fs (j+1 - 1)) w''
   rw[if_neg (by omega),Nat.add_sub_cancel]
   cases j with
   | zero=>
    have hv':HV w' V q X f:=hv
    injection hj with hj
    subst hj
    rw[b1]
    exact a5 V w' hv'
   | succ j=>
    have hv':HV w' V q X (fs j):=hv
    exact b4 V j p' hj w' hk hv'
end St
namespace St
open Go.RowKit Dk Gm Eqb Rm Di Vl Qv Sp
open Vm (HasVol vM)
structure Sw(w:World)(V:Pl)(sb:Nat)(q:Qt)(X:Dst)(f:Nat→Int)(st:List Value)(w':World):Prop where
 v:HV w' V q X f
 s:w'.heap[sb]?=some (.cells st.toArray 26 (0,0))
 fs:Off w' V sb
 sz:w.heap.size≤w'.heap.size
 os:w'.os=w.os
 tp:w'.tape=w.tape
 ou:w'.output=w.output
 blk:∀k,k < w.heap.size→V.b≠k→sb≠k→w'.heap[k]?=w.heap[k]?
 loc:Vl.Loc w V w'
 kp:Rm.Kp w'
section
variable {q:Qt}{X X':Dst}{f f':Nat→Int}{w w' w'':World}{V:Pl}{sb wb:Nat}{gv:Value}{G:List Pt.Pn}{st st2:List Value}
theorem wt_make(hv:HV w V q X f)(hk:Rm.Kp w)(o:Obj)(st:List Value):Wt ((w.alloc o).alloc (.cells (wkC V st (.slice none 0 0)).toArray 91)) V (w.heap.size+1) (.slice none 0 0) q X f st (.slice none 0 0) [] ((w.alloc o).alloc (.cells (wkC V st (.slice none 0 0)).toArray 91))∧
  Below w.heap.size w ((w.alloc o).alloc (.cells (wkC V st (.slice none 0 0)).toArray 91))∧((w.alloc o).alloc (.cells (wkC V st (.slice none 0 0)).toArray 91)).heap[w.heap.size]?=some o∧
  (∀b,b < w.heap.size→Off w V b→Lk V (w.heap.size+1) (.slice none 0 0) ((w.alloc o).alloc (.cells (wkC V st (.slice none 0 0)).toArray 91)) b)∧Lk V (w.heap.size+1) (.slice none 0 0) ((w.alloc o).alloc (.cells (wkC V st (.slice none 0 0)).toArray 91)) w.heap.size:=by
 have hb:Below w.heap.size w ((w.alloc o).alloc (.cells (wkC V st (.slice none 0 0)).toArray 91)):=((Below.refl _ _).alloc (Nat.le_refl _) _).alloc (by simp) _
 have hs:(w.alloc o).heap.size=w.heap.size+1:=by simp
 have hr:=heap_alloc_new (w.alloc o) (.cells (wkC V st (.slice none 0 0)).toArray 91)
 rw[hs] at hr
 have hvl:=hv.lt
 have hv':=hv.below hb
 have ho:Off ((w.alloc o).alloc (.cells (wkC V st (.slice none 0 0)).toArray 91)) V (w.heap.size+1):=(Off.new hv (kq0 q) (by omega)).below hvl hb
 refine⟨⟨hv',hr,OwnP.nil _ _,fun k e=>(by cases e),ho,Nat.le_refl _,rfl,rfl,rfl,fun _ _ _ _ _=>rfl,fun k e=>(by cases e),Vl.Loc.refl _ _,hk.below hb,hv'.lt,by omega⟩,hb,?_,fun b hb1 hob=>⟨by have:=hb.size; omega,by omega,(fun e=>by cases e),hob.below hvl hb⟩,⟨by simp; omega,by omega,(fun e=>by cases e),(Off.new hv (kq0 q) (Nat.le_refl _)).below hvl hb⟩⟩
 have h1:=heap_alloc_new w o
 rw[←h1]
 exact Below.heap_alloc _ _ _ (by simp)
theorem Sw.ok(hb:Below w.heap.size w w')(hw:Wt w' V (w.heap.size+1) (.slice none 0 0) q X f st gv G w'')(hs:w.heap[sb]?=some (.cells st2.toArray 26 (0,0)))(ho:Off w V sb)(hvl:V.b < w.heap.size)(hlt:w.heap.size+1 < w'.heap.size)(h0s:sb≠0){st3:List Value}(_hl:st3.length=st2.length) :
  w''.heap[sb]?=some (.cells st2.toArray 26 (0,0))∧Sw w V sb q X f st3 (w''.setRow sb st3.toArray):=by
 have lb:=(Array.getElem?_eq_some_iff.1 hs).1
 have h0:w'.heap[sb]?=w.heap[sb]?:=hb.block sb lb
 have hr:w''.heap[sb]?=some (.cells st2.toArray 26 (0,0)):=(hw.blk sb (by omega) ho.1 (by omega) (fun e=>by cases e)).trans (h0.trans hs)
 have ho1:Off w' V sb:=ho.below hvl hb
 have ho2:Off w'' V sb:=ho1.loc (by omega) hw.loc
 have hg:w''.grownBy (w''.setRow sb st3.toArray) (some sb):=gR st3.toArray
 obtain⟨hv,ho3⟩:=hasVol_only hw.v (kq0 q) ho2 hr (by decide) (by decide) (.inl rfl) hg
 refine⟨hr,hv,setRow_heap _ _ _ _ _ _ hr,ho3,?_,?_,?_,?_,fun k hk k1 k2=>?_,?_,?_⟩
 ·exact Nat.le_trans hb.size (Nat.le_trans hw.sz hg.size)
 ·exact hg.os.trans (hw.os.trans hb.os)
 ·exact hg.tape.trans (hw.tp.trans hb.tape)
 ·exact hg.output.trans (hw.ou.trans hb.output)
 ·refine(hg.block k ?_ (by simpa using Ne.symm k2)).trans ((hw.blk k ?_ k1 (by omega) (fun e=>by cases e)).trans (hb.block k hk))
  ·have:=hw.sz; omega
  ·omega
 ·have hc:(w''.setRow sb st3.toArray).cell? ⟨V.b,V.o+9,none⟩=w''.cell? ⟨V.b,V.o+9,none⟩:=World.cell?_of_block (hg.block V.b hw.v.lt (by simpa using ho2.1))
  exact((Vl.Loc.below hb hvl).trans hw.loc hb.size).trans (Vl.Loc.same hc) (Nat.le_trans hb.size hw.sz)
 ·exact hw.kp.grown hg h0s
theorem hv_put{n k:Nat}{M:Tab}{A B Z:Int}{ao:Option Addr}{kc:Nat}(h:HasVol w V n X M A B Z k f)(hs:Sp.St (w.setCells V.b (V.o+6) (Vm.spC A B Z ao k kc)) (w.setCells V.b (V.o+6) (Vm.spC A B Z ao k kc)).heap.size ao k kc f') :
  HasVol (w.setCells V.b (V.o+6) (Vm.spC A B Z ao k kc)) V n X M A B Z k f':=by
 obtain⟨hN,ao0,kc0,⟨pa,cap,⟨sa,sc,ca,cc,hh⟩,hl,h0⟩,_⟩:=h
 have hg':w.grownBy (w.setCells V.b (V.o+6) (Vm.spC A B Z ao k kc)) (some V.b):=grown_setCells _ _ _ _
 have h1:=Pl.at_hd.1 (Pl.at_hd.1 hh.bx)
 have h2:V.At (w.setCells V.b (V.o+6) (Vm.spC A B Z ao k kc)) ([.slice sa n sc,.slice ca X.m cc,.int .i64 X.f,.bool X.d] ++ [.int .i64 M.gen,.slice pa M.k cap] ++ Vm.spC A B Z ao k kc):=by
  have e1:=(((h1.set (j:=6) (by simp[Vm.spC]) (.int .i64 A)).set (j:=7) (by simp[Vm.spC]) (.int .i64 B)).set (j:=8) (by simp[Vm.spC]) (.int .i64 Z)).set (j:=9) (by simp[Vm.spC]) (.slice ao k kc)
  exact e1
 exact⟨hN,ao,kc,⟨pa,cap,⟨sa,sc,ca,cc,Pl.at_hd.2 (Pl.at_hd.2 (by simpa[Vm.spC] using h2)),(hh.ss.grown hg' (Nat.le_refl _)).more hg'.size,(hh.cs.grown hg' (Nat.le_refl _)).more hg'.size,hh.nb,hh.mb,hh.ts.grown hh.ss hg' (Nat.le_refl _),hh.tc.grown hh.cs hg' (Nat.le_refl _)⟩,(hl.grown hg' (Nat.le_refl _)).more hg'.size,h0⟩,hs⟩
theorem sp_there{n k:Nat}{M:Tab}{A B Z:Int}(h:HasVol w V n X M A B Z k f){l:List Value}(hl:l.length=4:=by rfl):w.there V.b (V.o+6) l.length:=fun j hj=>by
 obtain⟨sa,sc,ca,cc,pa,cap,ao,kc,hx⟩:=HasVol.open' h
 rw[hl] at hj
 refine⟨?_,hx.fr _⟩
 have:=hx.at'.cell (j:=6+j) (by simp; omega)
 rw[Nat.add_assoc,this]
 rw[List.getElem?_eq_getElem (by simp; omega)]
 rfl
theorem Sw.err(hv0:HV w V q X f)(hb:Below w.heap.size w w')(hw:Wt w' V (w.heap.size+1) (.slice none 0 0) q X' f' st gv G w'')(hs:w.heap[sb]?=some (.cells st2.toArray 26 (0,0)))(ho:Off w V sb)(hlt:w.heap.size+1 < w'.heap.size){sa sc ca cc pa cap ao kc}(hx:Vl.Vx w V (nq q) X vM 28 (bq q) (zq q) (kq q) f sa sc ca cc pa cap ao kc) :
  Sw w V sb q X' f st2 (w''.setCells V.b (V.o+6) (Vm.spC 28 (bq q) (zq q) ao (kq q) kc)):=by
 have lb:=(Array.getElem?_eq_some_iff.1 hs).1
 have hvl:=hv0.lt
 have hg2:w''.grownBy (w''.setCells V.b (V.o+6) (Vm.spC 28 (bq q) (zq q) ao (kq q) kc)) (some V.b):=grown_setCells _ _ _ _
 have hblk:∀k,k < w.heap.size→V.b≠k→(w''.setCells V.b (V.o+6) (Vm.spC 28 (bq q) (zq q) ao (kq q) kc)).heap[k]?=w.heap[k]?:=fun k hk k1=>by
  refine(hg2.block k ?_ (by simpa using Ne.symm k1)).trans ((hw.blk k ?_ k1 (by omega) (fun e=>by cases e)).trans (hb.block k hk))
  ·have:=hw.sz; omega
  ·omega
 have hg:w.grownBy (w''.setCells V.b (V.o+6) (Vm.spC 28 (bq q) (zq q) ao (kq q) kc)) (some V.b):=
  ⟨hg2.os.trans (hw.os.trans hb.os),hg2.tape.trans (hw.tp.trans hb.tape),hg2.output.trans (hw.ou.trans hb.output),Nat.le_trans hb.size (Nat.le_trans hw.sz hg2.size),fun k hk k1=>hblk k hk (by simpa using Ne.symm k1)⟩
 have hv0':=hv0
 obtain⟨hN,ao1,kc1,hvd,_⟩:=hv0'
 obtain⟨l,hB,_⟩:=Vm.sp_at hN hvd
 have hst:=hx.st.keepG (Nat.le_refl _) hB hg
 have hv:=hv_put hw.v hst
 have hc9:(w''.setCells V.b (V.o+6) (Vm.spC 28 (bq q) (zq q) ao (kq q) kc)).cell? ⟨V.b,V.o+9,none⟩=w.cell? ⟨V.b,V.o+9,none⟩:=by
  have h3:=World.rangeAt_setCells_same w'' V.b (V.o+6) (Vm.spC 28 (bq q) (zq q) ao (kq q) kc) (sp_there hw.v) 3 _ rfl
  rw[hx.c9]
  exact h3
 exact⟨hv,(hblk sb lb ho.1).trans hs,ho.loc lb (Vl.Loc.same hc9),hg.size,hg.os,hg.tape,hg.output,fun k hk k1 _=>hblk k hk k1,Vl.Loc.same hc9,hw.kp.grown hg2 (hasVol_ne hw.v)⟩
end
end St
end Go.Proofs.YteaocagepfgfnaaGreatDoor
