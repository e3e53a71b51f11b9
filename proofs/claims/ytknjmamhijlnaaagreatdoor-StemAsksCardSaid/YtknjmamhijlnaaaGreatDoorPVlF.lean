import Derived.Test.YtknjmamhijlnaaaGreatDoorPVlL
import Derived.Maps.AppendAt
import Derived.Great.BuildSlice
import Derived.Test.YtknjmamhijlnaaaGreatDoorPJRb
import Derived.BigQuiet
import Derived.Test.YtknjmamhijlnaaaGreatDoorPJSh
import Derived.Deep.RegionHeld3
import Derived.Test.YtknjmamhijlnaaaGreatDoorPGmQuo
import Derived.Test.YtknjmamhijlnaaaGreatDoorPVlI
import Derived.Test.YtknjmamhijlnaaaGreatDoorPQmN
import Derived.Test.YtknjmamhijlnaaaGreatDoorPSpTk
import Derived.Test.YtknjmamhijlnaaaGreatDoorPJPt
import Derived.Test.YtknjmamhijlnaaaGreatDoorPSpDrM
import Derived.Test.YtknjmamhijlnaaaGreatDoorPAl
set_option maxRecDepth 100000
set_option maxHeartbeats 8000000
namespace Go.Proofs.YtknjmamhijlnaaaGreatDoor
namespace Vl
open Go.RowKit Dk Gm Eqb Rm Vm Di
attribute [local go_sem] zv29
attribute [local go_sem] Pt.zvP
attribute [local go_sem] zc29
end Vl
namespace Vl
open Go.RowKit Dk Gm Eqb Rm Vm Di
attribute [local go_sem] zv29
attribute [local go_sem] Pt.zvP
attribute [local go_sem] zc29
structure Wq(base:World)(V:Pl)(n:Nat)(X:Dst)(M:Tab)(X':Dst)(M':Tab)(A B Z:Int)(k:Nat)(f f':Nat→Int)(bc:Bool)(w':World):Prop where
 g:base.grownBy w' (some V.b)
 l:Loc base V w'
 p0:bc=false→HasVol w' V n X M A B Z k f
 p1:bc=true→HasVol w' V n X' M' A B Z k f'
section
variable {base:World}{V:Pl}{n:Nat}{X X':Dst}{M M':Tab}{A B Z:Int}{k:Nat}{f f':Nat→Int}{bc:Bool}{w' w'':World}
theorem Wq.start(h:HasVol base V n X M A B Z k f):Wq base V n X M X' M' A B Z k f f' false { base with drawn:=base.drawn+1 }:=
 ⟨⟨rfl,rfl,rfl,Nat.le_refl _,fun _ _ _=>rfl⟩,fun _ _ _ k c e=>.inr ⟨k,c,e⟩,fun _=>h.below ⟨rfl,rfl,rfl,Nat.le_refl _,fun _ _=>rfl⟩,(fun e=>by cases e)⟩
theorem Wq.call(h:Wq base V n X M X' M' A B Z k f f' bc w')(_hc:bc=false)(ht:Tv w' V n X' M' A B Z k f' w''):Wq base V n X M X' M' A B Z k f f' true w'':=
 ⟨Dk.oT h.g ht.g,h.l.trans ht.l h.g.size,(fun e=>by cases e),fun _=>ht.v⟩
end
structure Dp(base:World)(V:Pl)(n:Nat)(X:Dst)(M:Tab)(A B Z:Int)(k:Nat)(f f':Nat→Int)(E:Int)(p:Pt.Pn)(bp:Nat)(L:Nat→Bool)(u0 u1 u2 u3 u4 u5:Value)(w':World):Prop where
 fa0:L 0=true→u0=.pointer (some ⟨V.b,V.o,none⟩)
 fa1:L 1=true→u1=.pointer (some ⟨V.b,V.o,none⟩)
 fa2:L 2=true→u2=.pointer (some ⟨V.b,V.o+6,none⟩)
 fa3:L 3=true→u3=.agg (Pt.pV p).toArray
 fa4:L 4=true→u4=.int .i64 E
 fa5:L 5=true→u5=.int .i64 E
 wd:Wq base V n X M X M A B Z k f f' (L 4) w'
theorem Dp_kl{L:Nat→Bool}{i k:Nat}{Q:Prop}(h:L k=true→Q)(h1:(k == i)=false):(k == i || L k)=true→Q:=by
 rw[h1,Bool.false_or]
 exact h
section
variable {base:World}{V:Pl}{n:Nat}{X:Dst}{M:Tab}{A B Z:Int}{k:Nat}{f f':Nat→Int}{E:Int}{p:Pt.Pn}{bp:Nat}{L:Nat→Bool}{u0 u1 u2 u3 u4 u5:Value}{w' w'':World}
theorem Dp.set0(h:Dp base V n X M A B Z k f f' E p bp L u0 u1 u2 u3 u4 u5 w'):Dp base V n X M A B Z k f f' E p bp (fun j=>j == 0 || L j) (.pointer (some ⟨V.b,V.o,none⟩)) u1 u2 u3 u4 u5 w':=
 ⟨fun _=>rfl,Dp_kl h.fa1 rfl,Dp_kl h.fa2 rfl,Dp_kl h.fa3 rfl,Dp_kl h.fa4 rfl,Dp_kl h.fa5 rfl,h.wd⟩
theorem Dp.set1(h:Dp base V n X M A B Z k f f' E p bp L u0 u1 u2 u3 u4 u5 w'):Dp base V n X M A B Z k f f' E p bp (fun j=>j == 1 || L j) u0 (.pointer (some ⟨V.b,V.o,none⟩)) u2 u3 u4 u5 w':=
 ⟨Dp_kl h.fa0 rfl,fun _=>rfl,Dp_kl h.fa2 rfl,Dp_kl h.fa3 rfl,Dp_kl h.fa4 rfl,Dp_kl h.fa5 rfl,h.wd⟩
theorem Dp.set2(h:Dp base V n X M A B Z k f f' E p bp L u0 u1 u2 u3 u4 u5 w'):Dp base V n X M A B Z k f f' E p bp (fun j=>j == 2 || L j) u0 u1 (.pointer (some ⟨V.b,V.o+6,none⟩)) u3 u4 u5 w':=
 ⟨Dp_kl h.fa0 rfl,Dp_kl h.fa1 rfl,fun _=>rfl,Dp_kl h.fa3 rfl,Dp_kl h.fa4 rfl,Dp_kl h.fa5 rfl,h.wd⟩
theorem Dp.set3(h:Dp base V n X M A B Z k f f' E p bp L u0 u1 u2 u3 u4 u5 w'):Dp base V n X M A B Z k f f' E p bp (fun j=>j == 3 || L j) u0 u1 u2 (.agg (Pt.pV p).toArray) u4 u5 w':=
 ⟨Dp_kl h.fa0 rfl,Dp_kl h.fa1 rfl,Dp_kl h.fa2 rfl,fun _=>rfl,Dp_kl h.fa4 rfl,Dp_kl h.fa5 rfl,h.wd⟩
theorem Dp.set4(h:Dp base V n X M A B Z k f f' E p bp L u0 u1 u2 u3 u4 u5 w')(hw:Wq base V n X M X M A B Z k f f' true w''):Dp base V n X M A B Z k f f' E p bp (fun j=>j == 4 || L j) u0 u1 u2 u3 (.int .i64 E) u5 w'':=
 ⟨Dp_kl h.fa0 rfl,Dp_kl h.fa1 rfl,Dp_kl h.fa2 rfl,Dp_kl h.fa3 rfl,fun _=>rfl,Dp_kl h.fa5 rfl,hw⟩
theorem Dp.set5(h:Dp base V n X M A B Z k f f' E p bp L u0 u1 u2 u3 u4 u5 w'):Dp base V n X M A B Z k f f' E p bp (fun j=>j == 5 || L j) u0 u1 u2 u3 u4 (.int .i64 E) w':=
 ⟨Dp_kl h.fa0 rfl,Dp_kl h.fa1 rfl,Dp_kl h.fa2 rfl,Dp_kl h.fa3 rfl,Dp_kl h.fa4 rfl,fun _=>rfl,h.wd⟩
end
def DpInv(x2 x5 x6 x7 x8:Value)(base:World)(V:Pl)(n:Nat)(X:Dst)(M:Tab)(A B Z:Int)(k:Nat)(f f':Nat→Int)(E:Int)(p:Pt.Pn)(bp:Nat)(L:Nat→Bool)(a':Act)(w':World):Prop:=
 ∃u0 u1 u2 u3 u4 u5,a'={ tmps:=#[.pointer (some ⟨V.b,V.o,none⟩),.agg (Pt.pV p).toArray,x2,.pointer (some ⟨bp,0,none⟩),u5,x5,x6,x7,x8,u0,u1,u2,u3,u4],defers:=[] }∧Dp base V n X M A B Z k f f' E p bp L u0 u1 u2 u3 u4 u5 w'
theorem drop_ok{w:World}{V:Pl}{n k:Nat}{X:Dst}{M:Tab}{A B Z:Int}{f:Nat→Int}(h:HasVol w V n X M A B Z k f)(hm:TabOk M)(hB:Sp.i64 B)(hk:0 < k)(p:Pt.Pn)(hpA:Sp.i64 p.A)(hpB:Sp.i64 p.B)(hyes:mn n X M A B Z k f p=true){E:Int}(hE:Sp.drE A B Z k f p=E){F:Nat→Int}(hF:Sp.drF A B Z k f p=F) :
  Calls Tryz.prog 53 #[.pointer (some ⟨V.b,V.o,none⟩),.agg (Pt.pV p).toArray] w fun e w'=>e=.returned (.int .i64 E)∧Tv w V n X M A B Z k F w':=by
 obtain⟨hb0,hx0,hs0⟩:=Pt.box_pt w p
 have HMI:=Lib.hid (mine_v (h.below hb0) hm hB p hpA hpB)
 rw[hyes] at HMI
 have q0:=Pt.rP hx0
 have HX0:=Lib.hid hx0
 have HB0:=Lib.hid hb0
 have HV0:=Lib.hid h
 have hvl:=h.lt
 have HDR:=Lib.hid (fun w' (hv:HasVol w' V n X M A B Z k f)=>drop_v hv hk hB p hpA hpB)
 rw[hE,hF] at HDR
 clear h hm hB hyes hx0 hE hF hb0
 go_enter Tryz.func53,Tryz.ntmps53
 go_wp2_with (refine @wG _ _ _ _ _ _ _ (by kernel_rfl) 58 (.tmp 3) rfl w.heap.size 0 rfl (Pt.pV p) _ q0 Pt.undP rfl (Pt.sizeP p) ?_; simp only[Act.put,aA])
 refine HMI.out.mono ?_
 rintro _ w1 ⟨rfl,hb1⟩
 have hs1:=hb1.size
 have hp1:=(hb1.block w.heap.size (by omega)).trans HX0.out
 have HT1:Hid (Tv w V n X M A B Z k f w1):=Lib.hid (Tv.of HV0.out (HB0.out.trans (hb1.mono HB0.out.size)))
 have HPB:=Lib.hid (fun w' (hg:w1.grownBy w' (some V.b))=>Pt.rP ((hg.block w.heap.size (by omega) (by simp; omega)).trans hp1))
 have HSTART:=Lib.hid (Wq.start (X':=X) (M':=M) (f':=F) HT1.out.v)
 clear HMI q0 HX0 HB0 HV0 hb1 hp1
 dsimp only
 go_wp2_with fail
 refine QuietTail2.regionInv (n:=6) (Inv:=DpInv _ _ _ _ _ w1 V n X M A B Z k (f) (F) E p (w.heap.size)) (by kernel_rfl) (by decide) (by kernel_rfl) ⟨_,_,_,_,_,_,rfl,⟨by simp,by simp,by simp,by simp,by simp,by simp,?_⟩⟩ ?step ?fin
 exact HSTART.out
 case step=>
  rintro i o hi ho L a' w' ⟨u0,u1,u2,u3,u4,u5,rfl,TT⟩ hL hpre
  match i,hi with
  | 0,_=>
   simp at ho
   subst ho
   go_simp
   exact⟨_,u1,u2,u3,u4,u5,rfl,TT.set0⟩
  | 1,_=>
   simp at ho
   subst ho
   obtain rfl:=TT.fa0 (hpre 0 (by kernel_rfl))
   go_simp
   exact⟨_,_,u2,u3,u4,u5,rfl,TT.set1⟩
  | 2,_=>
   simp at ho
   subst ho
   obtain rfl:=TT.fa1 (hpre 1 (by kernel_rfl))
   go_simp
   exact⟨u0,_,_,u3,u4,u5,rfl,TT.set2⟩
  | 3,_=>
   simp at ho
   subst ho
   refine wp_load_mid 58 (.tmp 3) rfl w.heap.size 0 rfl (Pt.pV p) _ (HPB.out w' TT.wd.g) Pt.undP rfl (Pt.sizeP p) ?_
   simp only[Act.put,aA]
   exact⟨u0,u1,u2,_,u4,u5,rfl,TT.set3⟩
  | 4,_=>
   simp at ho
   subst ho
   obtain rfl:=TT.fa2 (hpre 2 (by kernel_rfl))
   obtain rfl:=TT.fa3 (hpre 3 (by kernel_rfl))
   go_simp
   refine(HDR.out w' (TT.wd.p0 hL)).mono ?_
   rintro _ w'' ⟨rfl,hT⟩
   exact⟨u0,u1,_,_,_,u5,rfl,TT.set4 (TT.wd.call hL hT)⟩
  | 5,_=>
   simp at ho
   subst ho
   obtain rfl:=TT.fa4 (hpre 4 (by kernel_rfl))
   go_simp
   exact⟨u0,u1,u2,u3,_,_,rfl,TT.set5⟩
  | i+6,h=>omega
 case fin=>
  rintro L a' w' hall ⟨u0,u1,u2,u3,u4,u5,rfl,TT⟩
  have hWD:Wq w1 V n X M X M A B Z k f F true w':=by have:=TT.wd; rwa [hall 4 (by omega)] at this
  obtain rfl:=TT.fa5 (hall 5 (by omega))
  have hT:=HT1.out.trans (⟨hWD.p1 rfl,hWD.g,hWD.l⟩:Tv w1 V n X M A B Z k F w')
  clear TT hWD HPB HDR HT1 HSTART
  refine wpList_nil ?_
  go_wp2_with fail
  go_ret
  exact⟨rfl,hT⟩
end Vl
namespace Vl
open Go.RowKit Dk Gm Eqb Rm Vm Di Byt
abbrev Hd:=Pt.Pn × (Nat→Int)
def hV(h:Hd):List Value:=Pt.pV h.1 ++ bl h.2
def hd0:Hd:=(Pt.pz,fun _=>0)
def hcs(H:List Hd):List Value:=H.flatMap hV
section
variable {w w':World}{base:Nat}{v:Value}{H:List Hd}
end
section
variable {w:World}{base n c b:Nat}{a:Option Addr}{H:List Hd}
end
end Vl
namespace Rm
open Go.RowKit Dk
end Rm
namespace Rm
open Go.RowKit Dk Byt
attribute [local go_sem] zv29
attribute [local go_sem] zc29
end Rm
namespace Rm
open Go.RowKit Dk Byt
attribute [local go_sem] zv29
attribute [local go_sem] zc29
end Rm
namespace Gm
open Go.RowKit
end Gm
namespace Vl
open Go.RowKit Dk Gm Eqb
end Vl
namespace Vl
open Go.RowKit Dk Gm Eqb
attribute [local irreducible] wpQuiet
def secU(A B Z:Int)(f:Nat→Int)(x:Int):Bool:=x == -1 || (decide (0≤Sp.plI A B Z x) && Sp.us (f (Sp.plI A B Z x).toNat))
theorem dr_secs{A B Z:Int}{n:Nat}{f:Nat→Int}(hf:Sp.formB A B Z n f=true)(p:Pt.Pn):Sp.drB A B Z n f p=(Pt.rightB p && (secU A B Z f p.A && secU A B Z f p.B)):=by
 unfold Sp.drB Sp.plB Sp.anyP Sp.pls Sp.pla Sp.okB secU
 rw[hf]
 generalize Pt.rightB p=r
 by_cases eA:p.A = -1
 ·rw[if_pos eA,eA]
  by_cases eB:p.B = -1
  ·rw[if_pos eB,eB]
   cases r <;> rfl
  ·have eB':(p.B == -1)=false:=by simpa using eB
   rw[if_neg eB,eB']
   generalize decide (0≤Sp.plI A B Z p.B)=b
   simp only[List.nil_append,List.any_cons,List.any_nil]
   generalize Sp.us (f (Sp.plI A B Z p.B).toNat)=v
   cases r <;> cases b <;> cases v <;> rfl
 ·have eA':(p.A == -1)=false:=by simpa using eA
  rw[if_neg eA,eA']
  generalize decide (0≤Sp.plI A B Z p.A)=a
  by_cases eB:p.B = -1
  ·rw[if_pos eB,eB]
   simp only[List.append_nil,List.any_cons,List.any_nil]
   generalize Sp.us (f (Sp.plI A B Z p.A).toNat)=u
   cases r <;> cases a <;> cases u <;> rfl
  ·have eB':(p.B == -1)=false:=by simpa using eB
   rw[if_neg eB,eB']
   generalize decide (0≤Sp.plI A B Z p.B)=b
   simp only[List.cons_append,List.nil_append,List.any_cons,List.any_nil]
   generalize Sp.us (f (Sp.plI A B Z p.A).toNat)=u
   generalize Sp.us (f (Sp.plI A B Z p.B).toNat)=v
   cases r <;> cases a <;> cases b <;> cases u <;> cases v <;> rfl
end Vl
namespace Vm
open Go.RowKit Byt Sp
def e1(i j:Nat):Int:=if j < i then 2 else 0
def e2(i j:Nat):Int:=if j < i∨(128≤j∧j < 128+i) then 2 else 0
end Vm
namespace Vm
open Go.RowKit Byt Sp
end Vm
namespace Vl
open Go.RowKit Dk Gm Eqb Rm Vm Di
theorem secU_none(f:Nat→Int):secU 28 184 128 f (-1)=true:=rfl
theorem tabM:TabOk vM:=⟨by show 0≤_; omega,fun i hi=>by have hi':i < 0:=hi; omega⟩
theorem fits_hole(D:Nat→Int):Pt.fitsB Pt.hole D=Wd.zeroB D 128:=rfl
end Vl
namespace Vp
open Go.RowKit Dk Gm Eqb Rm Vm Di Vl
def one(i z:Nat):Nat→Int:=fun j=>if j=i then (z:Int) else 0
def ps(H:List Hd):List Pt.Pn:=H.map (·.1)
def Fl:Int→Prop:=fun _=>False
theorem sx_perm{H H':List Hd}(p:H.Perm H'):(sx (ps H)).Perm (sx (ps H')):=(p.map _).flatMap_right _
theorem secs_hole:Sp.secs Pt.hole=[]:=rfl
theorem ps_append(H H':List Hd):ps (H ++ H')=ps H ++ ps H':=by simp[ps]
section
variable {X:Dst}{f:Nat→Int}{H H':List Hd}
end
end Vp
namespace Qv
open Go.RowKit Dk Gm Eqb Rm Di Vl
open Vm (vM nw)
variable {q:Qt}
theorem inq(q:Qt):inQ (q.1:Int):=by have:=q.2; unfold inQ; omega
theorem fsqq(q:Qt):fsq ((nq q:Nat):Int)=(q.1:Int):=by rw[q.num.1]; exact fsq_of (inq q)
theorem okQq(q:Qt):okQ (nq q)=true:=by unfold okQ; rw[fsqq]; exact decide_eq_true (inq q)
theorem rv_up{X:Dst}{f:Nat→Int}(hu:Up q X)(hf:Sp.formB 28 (bq q) (zq q) (kq q) f=true):rv (nq q) X vM 28 (bq q) (zq q) (kq q) f=true:=by
 unfold rv rvB lyB
 rw[show formedB (nq q) X.m X.C=true from hu.f,okQq,rt0 q,hf,fsqq,show((((zq q:Nat):Int) == 2 * (q.1:Int)+120)=true) by rw[q.num.2.1]; simp]
 have:(bq q == 2 * (q.1:Int)+176)=true:=by rw[q.num.2.2.1]; simp
 rw[this]
 rfl
theorem pl_rg{x:Int}(h:Rg q x):0≤Sp.plI 28 (bq q) (zq q) x∧Sp.plI 28 (bq q) (zq q) x < (kq q:Int):=by
 have hN:=q.num
 unfold Rg at h
 unfold Sp.plI
 split
 ·omega
 ·split <;> omega
def ix(q:Qt)(x:Int):Nat:=(Sp.plI 28 (bq q) (zq q) x).toNat
theorem secU_rg{f:Nat→Int}{x:Int}(h:Rg q x)(hu:Sp.us (f (ix q x))=true):secU 28 (bq q) (zq q) f x=true:=by
 unfold secU
 rw[decide_eq_true (pl_rg h).1,show Sp.us (f (Sp.plI 28 (bq q) (zq q) x).toNat)=true from hu]
 simp
theorem secU_none(f:Nat→Int):secU 28 (bq q) (zq q) f (-1)=true:=rfl
theorem mn_up{X:Dst}{f:Nat→Int}(hu:Up q X)(hf:Sp.formB 28 (bq q) (zq q) (kq q) f=true){a c:Int}(hp:Ps q a c)(ha:Sp.us (f (ix q a))=true)(hc:c≠-1→Sp.us (f (ix q c))=true)(s:Nat→Int):mn (nq q) X vM 28 (bq q) (zq q) (kq q) f ⟨a,c,s⟩=true:=by
 have h1:=rv_up hu hf
 unfold rv at h1
 unfold mn mnB
 rw[h1,dr_secs hf,hp.right]
 dsimp only
 rw[secU_rg hp.fa ha]
 rcases hp.fc with rfl | ⟨hcr,_⟩
 ·rfl
 ·rw[secU_rg hcr (hc (by have:=hcr.bd; omega))]
  rfl
theorem mn_hole{X:Dst}{f:Nat→Int}(hu:Up q X)(hf:Sp.formB 28 (bq q) (zq q) (kq q) f=true):mn (nq q) X vM 28 (bq q) (zq q) (kq q) f Pt.hole=true:=by
 have h1:=rv_up hu hf
 unfold rv at h1
 unfold mn mnB
 rw[h1,dr_secs hf]
 rfl
theorem i64_b(q:Qt):Sp.i64 (bq q):=by have hN:=q.num; unfold Sp.i64; omega
theorem put_res{X:Dst}{D:Nat→Int}{a c:Int}(hu:Up q X)(hc:Clean q X)(hp:Ps q a c)(hm:X.m≤90000):∃X',pRes (nq q) X vM D a c=⟨⟨a,c,Pt.sumD D⟩,0,X',vM⟩∧Up q X'∧Clean q X'∧X'.m≤X.m+2∧Good X' D a∧(c≠-1→Good X' D c)∧
  (∀b y,y≠a→y≠c→Good X b y→Good X' b y)∧Ok 23 (wRes (nq q) X vM a D).2.1∧TabOk (wRes (nq q) X vM a D).2.2:=by
 obtain⟨hl,hw⟩:=put_up (V:=D) hu hc hp
 obtain⟨_,u1,m1,_⟩:=hu.wr ⟨hp.fa.bd.1,hp.fa.bd.2.1⟩ (hc a hp.fa) D
 refine⟨(pRes (nq q) X vM D a c).X,?_,hl.u,hl.cl,hl.m,hl.ga,hl.gc,hl.old,?_,?_⟩
 ·have e1:=hl.p
  have e2:=hl.e
  have e3:=hl.M
  generalize pRes (nq q) X vM D a c=R at e1 e2 e3 ⊢
  obtain⟨p,e,X',M'⟩:=R
  simp only at e1 e2 e3
  subst e1 e2 e3
  rfl
 ·rw[hw]
  exact u1.ok (by rw[m1]; omega)
 ·rw[hw]
  exact tabM
end Qv
end Go.Proofs.YtknjmamhijlnaaaGreatDoor
