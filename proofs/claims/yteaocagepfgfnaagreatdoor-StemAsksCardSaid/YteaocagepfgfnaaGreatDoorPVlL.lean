import Derived.Test.YteaocagepfgfnaaGreatDoorPVlI
import Derived.Maps.AppendAt
import Derived.Great.BuildSlice
import Derived.Test.YteaocagepfgfnaaGreatDoorPJRb
import Derived.BigQuiet
import Derived.Test.YteaocagepfgfnaaGreatDoorPJSh
import Derived.Deep.RegionHeld3
import Derived.Test.YteaocagepfgfnaaGreatDoorPGmQuo
import Derived.Test.YteaocagepfgfnaaGreatDoorPJDiA
import Derived.Test.YteaocagepfgfnaaGreatDoorPDiPut
import Derived.Test.YteaocagepfgfnaaGreatDoorPDiGet
import Derived.Test.YteaocagepfgfnaaGreatDoorPJPt
import Derived.Test.YteaocagepfgfnaaGreatDoorPSpTk
import Derived.Test.YteaocagepfgfnaaGreatDoorPSpDrM
import Derived.Test.YteaocagepfgfnaaGreatDoorPJRv
import Derived.Test.YteaocagepfgfnaaGreatDoorPAl
set_option maxRecDepth 100000
set_option maxHeartbeats 8000000
namespace Go.Proofs.YteaocagepfgfnaaGreatDoor
namespace Vl
open Go.RowKit Dk Gm Eqb Rm Vm Di
attribute [local go_sem] zv29
attribute [local go_sem] Pt.zvP
attribute [local go_sem] zc29
structure Gt(base:World)(V:Pl)(n:Nat)(X:Dst)(M:Tab)(X':Dst)(M':Tab)(A B Z:Int)(k:Nat)(f D:Nat→Int)(hd ev:Int)(p:Pt.Pn)(bp br:Nat)(L:Nat→Bool)(u0 u1 u2 u3 u4 u5 u6 u7 u8 u9 u10 u11 u12 u14 u15:Value)(w':World):Prop where
 fa0:L 0=true→u0=.pointer (some ⟨V.b,V.o,none⟩)
 fa1:L 1=true→u1=.pointer (some ⟨V.b,V.o,none⟩)
 fa2:L 2=true→u2=.pointer (some ⟨V.b,V.o,none⟩)
 fa3:L 3=true→u3=.pointer (some ⟨V.b,V.o,none⟩)
 fa4:L 4=true→u4=.pointer (some ⟨V.b,V.o,none⟩)
 fa5:L 5=true→u5=.pointer (some ⟨V.b,V.o+4,none⟩)
 fa6:L 6=true→u6=.agg (Pt.pV p).toArray
 fa7:L 7=true→u7=.tuple #[.agg (bl D).toArray,.int .i64 hd,.int .i64 ev]
 fa8:L 8=true→u8=.tuple #[.agg (bl D).toArray,.int .i64 hd,.int .i64 ev]
 fa9:L 9=true→u9=.agg (bl D).toArray
 fa10:L 10=true→u10=.int .i64 hd
 fa11:L 11=true→u11=.int .i64 ev
 fa14:L 14=true→u14=.int .i64 hd
 fa15:L 15=true→u15=.int .i64 ev
 wd:Wd base V n X M X' M' A B Z k f 47 (bl fun _=>0).toArray (bl D).toArray (L 7) (L 12) (L 13) u12 w'
theorem gk{L:Nat→Bool}{i k:Nat}{Q:Prop}(h:L k=true→Q)(h1:(k == i)=false):(k == i || L k)=true→Q:=by
 rw[h1,Bool.false_or]
 exact h
section
variable {base:World}{V:Pl}{n:Nat}{X:Dst}{M:Tab}{X':Dst}{M':Tab}{A B Z:Int}{k:Nat}{f D:Nat→Int}{hd ev:Int}{p:Pt.Pn}{bp br:Nat}{L:Nat→Bool}{u0 u1 u2 u3 u4 u5 u6 u7 u8 u9 u10 u11 u12 u14 u15:Value}{w' w'':World}
theorem Gt.set0(h:Gt base V n X M X' M' A B Z k f D hd ev p bp br L u0 u1 u2 u3 u4 u5 u6 u7 u8 u9 u10 u11 u12 u14 u15 w'):Gt base V n X M X' M' A B Z k f D hd ev p bp br (fun j=>j == 0 || L j) (.pointer (some ⟨V.b,V.o,none⟩)) u1 u2 u3 u4 u5 u6 u7 u8 u9 u10 u11 u12 u14 u15 w':=
 ⟨fun _=>rfl,gk h.fa1 rfl,gk h.fa2 rfl,gk h.fa3 rfl,gk h.fa4 rfl,gk h.fa5 rfl,gk h.fa6 rfl,gk h.fa7 rfl,gk h.fa8 rfl,gk h.fa9 rfl,gk h.fa10 rfl,gk h.fa11 rfl,gk h.fa14 rfl,gk h.fa15 rfl,h.wd⟩
theorem Gt.set1(h:Gt base V n X M X' M' A B Z k f D hd ev p bp br L u0 u1 u2 u3 u4 u5 u6 u7 u8 u9 u10 u11 u12 u14 u15 w'):Gt base V n X M X' M' A B Z k f D hd ev p bp br (fun j=>j == 1 || L j) u0 (.pointer (some ⟨V.b,V.o,none⟩)) u2 u3 u4 u5 u6 u7 u8 u9 u10 u11 u12 u14 u15 w':=
 ⟨gk h.fa0 rfl,fun _=>rfl,gk h.fa2 rfl,gk h.fa3 rfl,gk h.fa4 rfl,gk h.fa5 rfl,gk h.fa6 rfl,gk h.fa7 rfl,gk h.fa8 rfl,gk h.fa9 rfl,gk h.fa10 rfl,gk h.fa11 rfl,gk h.fa14 rfl,gk h.fa15 rfl,h.wd⟩
theorem Gt.set2(h:Gt base V n X M X' M' A B Z k f D hd ev p bp br L u0 u1 u2 u3 u4 u5 u6 u7 u8 u9 u10 u11 u12 u14 u15 w'):Gt base V n X M X' M' A B Z k f D hd ev p bp br (fun j=>j == 2 || L j) u0 u1 (.pointer (some ⟨V.b,V.o,none⟩)) u3 u4 u5 u6 u7 u8 u9 u10 u11 u12 u14 u15 w':=
 ⟨gk h.fa0 rfl,gk h.fa1 rfl,fun _=>rfl,gk h.fa3 rfl,gk h.fa4 rfl,gk h.fa5 rfl,gk h.fa6 rfl,gk h.fa7 rfl,gk h.fa8 rfl,gk h.fa9 rfl,gk h.fa10 rfl,gk h.fa11 rfl,gk h.fa14 rfl,gk h.fa15 rfl,h.wd⟩
theorem Gt.set3(h:Gt base V n X M X' M' A B Z k f D hd ev p bp br L u0 u1 u2 u3 u4 u5 u6 u7 u8 u9 u10 u11 u12 u14 u15 w'):Gt base V n X M X' M' A B Z k f D hd ev p bp br (fun j=>j == 3 || L j) u0 u1 u2 (.pointer (some ⟨V.b,V.o,none⟩)) u4 u5 u6 u7 u8 u9 u10 u11 u12 u14 u15 w':=
 ⟨gk h.fa0 rfl,gk h.fa1 rfl,gk h.fa2 rfl,fun _=>rfl,gk h.fa4 rfl,gk h.fa5 rfl,gk h.fa6 rfl,gk h.fa7 rfl,gk h.fa8 rfl,gk h.fa9 rfl,gk h.fa10 rfl,gk h.fa11 rfl,gk h.fa14 rfl,gk h.fa15 rfl,h.wd⟩
theorem Gt.set4(h:Gt base V n X M X' M' A B Z k f D hd ev p bp br L u0 u1 u2 u3 u4 u5 u6 u7 u8 u9 u10 u11 u12 u14 u15 w'):Gt base V n X M X' M' A B Z k f D hd ev p bp br (fun j=>j == 4 || L j) u0 u1 u2 u3 (.pointer (some ⟨V.b,V.o,none⟩)) u5 u6 u7 u8 u9 u10 u11 u12 u14 u15 w':=
 ⟨gk h.fa0 rfl,gk h.fa1 rfl,gk h.fa2 rfl,gk h.fa3 rfl,fun _=>rfl,gk h.fa5 rfl,gk h.fa6 rfl,gk h.fa7 rfl,gk h.fa8 rfl,gk h.fa9 rfl,gk h.fa10 rfl,gk h.fa11 rfl,gk h.fa14 rfl,gk h.fa15 rfl,h.wd⟩
theorem Gt.set5(h:Gt base V n X M X' M' A B Z k f D hd ev p bp br L u0 u1 u2 u3 u4 u5 u6 u7 u8 u9 u10 u11 u12 u14 u15 w'):Gt base V n X M X' M' A B Z k f D hd ev p bp br (fun j=>j == 5 || L j) u0 u1 u2 u3 u4 (.pointer (some ⟨V.b,V.o+4,none⟩)) u6 u7 u8 u9 u10 u11 u12 u14 u15 w':=
 ⟨gk h.fa0 rfl,gk h.fa1 rfl,gk h.fa2 rfl,gk h.fa3 rfl,gk h.fa4 rfl,fun _=>rfl,gk h.fa6 rfl,gk h.fa7 rfl,gk h.fa8 rfl,gk h.fa9 rfl,gk h.fa10 rfl,gk h.fa11 rfl,gk h.fa14 rfl,gk h.fa15 rfl,h.wd⟩
theorem Gt.set6(h:Gt base V n X M X' M' A B Z k f D hd ev p bp br L u0 u1 u2 u3 u4 u5 u6 u7 u8 u9 u10 u11 u12 u14 u15 w'):Gt base V n X M X' M' A B Z k f D hd ev p bp br (fun j=>j == 6 || L j) u0 u1 u2 u3 u4 u5 (.agg (Pt.pV p).toArray) u7 u8 u9 u10 u11 u12 u14 u15 w':=
 ⟨gk h.fa0 rfl,gk h.fa1 rfl,gk h.fa2 rfl,gk h.fa3 rfl,gk h.fa4 rfl,gk h.fa5 rfl,fun _=>rfl,gk h.fa7 rfl,gk h.fa8 rfl,gk h.fa9 rfl,gk h.fa10 rfl,gk h.fa11 rfl,gk h.fa14 rfl,gk h.fa15 rfl,h.wd⟩
theorem Gt.set7(h:Gt base V n X M X' M' A B Z k f D hd ev p bp br L u0 u1 u2 u3 u4 u5 u6 u7 u8 u9 u10 u11 u12 u14 u15 w')(hw:Wd base V n X M X' M' A B Z k f 47 (bl fun _=>0).toArray (bl D).toArray (true) (L 12) (L 13) u12 w''):Gt base V n X M X' M' A B Z k f D hd ev p bp br (fun j=>j == 7 || L j) u0 u1 u2 u3 u4 u5 u6 (.tuple #[.agg (bl D).toArray,.int .i64 hd,.int .i64 ev]) u8 u9 u10 u11 u12 u14 u15 w'':=
 ⟨gk h.fa0 rfl,gk h.fa1 rfl,gk h.fa2 rfl,gk h.fa3 rfl,gk h.fa4 rfl,gk h.fa5 rfl,gk h.fa6 rfl,fun _=>rfl,gk h.fa8 rfl,gk h.fa9 rfl,gk h.fa10 rfl,gk h.fa11 rfl,gk h.fa14 rfl,gk h.fa15 rfl,hw⟩
theorem Gt.set8(h:Gt base V n X M X' M' A B Z k f D hd ev p bp br L u0 u1 u2 u3 u4 u5 u6 u7 u8 u9 u10 u11 u12 u14 u15 w'):Gt base V n X M X' M' A B Z k f D hd ev p bp br (fun j=>j == 8 || L j) u0 u1 u2 u3 u4 u5 u6 u7 (.tuple #[.agg (bl D).toArray,.int .i64 hd,.int .i64 ev]) u9 u10 u11 u12 u14 u15 w':=
 ⟨gk h.fa0 rfl,gk h.fa1 rfl,gk h.fa2 rfl,gk h.fa3 rfl,gk h.fa4 rfl,gk h.fa5 rfl,gk h.fa6 rfl,gk h.fa7 rfl,fun _=>rfl,gk h.fa9 rfl,gk h.fa10 rfl,gk h.fa11 rfl,gk h.fa14 rfl,gk h.fa15 rfl,h.wd⟩
theorem Gt.set9(h:Gt base V n X M X' M' A B Z k f D hd ev p bp br L u0 u1 u2 u3 u4 u5 u6 u7 u8 u9 u10 u11 u12 u14 u15 w'):Gt base V n X M X' M' A B Z k f D hd ev p bp br (fun j=>j == 9 || L j) u0 u1 u2 u3 u4 u5 u6 u7 u8 (.agg (bl D).toArray) u10 u11 u12 u14 u15 w':=
 ⟨gk h.fa0 rfl,gk h.fa1 rfl,gk h.fa2 rfl,gk h.fa3 rfl,gk h.fa4 rfl,gk h.fa5 rfl,gk h.fa6 rfl,gk h.fa7 rfl,gk h.fa8 rfl,fun _=>rfl,gk h.fa10 rfl,gk h.fa11 rfl,gk h.fa14 rfl,gk h.fa15 rfl,h.wd⟩
theorem Gt.set10(h:Gt base V n X M X' M' A B Z k f D hd ev p bp br L u0 u1 u2 u3 u4 u5 u6 u7 u8 u9 u10 u11 u12 u14 u15 w'):Gt base V n X M X' M' A B Z k f D hd ev p bp br (fun j=>j == 10 || L j) u0 u1 u2 u3 u4 u5 u6 u7 u8 u9 (.int .i64 hd) u11 u12 u14 u15 w':=
 ⟨gk h.fa0 rfl,gk h.fa1 rfl,gk h.fa2 rfl,gk h.fa3 rfl,gk h.fa4 rfl,gk h.fa5 rfl,gk h.fa6 rfl,gk h.fa7 rfl,gk h.fa8 rfl,gk h.fa9 rfl,fun _=>rfl,gk h.fa11 rfl,gk h.fa14 rfl,gk h.fa15 rfl,h.wd⟩
theorem Gt.set11(h:Gt base V n X M X' M' A B Z k f D hd ev p bp br L u0 u1 u2 u3 u4 u5 u6 u7 u8 u9 u10 u11 u12 u14 u15 w'):Gt base V n X M X' M' A B Z k f D hd ev p bp br (fun j=>j == 11 || L j) u0 u1 u2 u3 u4 u5 u6 u7 u8 u9 u10 (.int .i64 ev) u12 u14 u15 w':=
 ⟨gk h.fa0 rfl,gk h.fa1 rfl,gk h.fa2 rfl,gk h.fa3 rfl,gk h.fa4 rfl,gk h.fa5 rfl,gk h.fa6 rfl,gk h.fa7 rfl,gk h.fa8 rfl,gk h.fa9 rfl,gk h.fa10 rfl,fun _=>rfl,gk h.fa14 rfl,gk h.fa15 rfl,h.wd⟩
theorem Gt.set12{u:Value}(h:Gt base V n X M X' M' A B Z k f D hd ev p bp br L u0 u1 u2 u3 u4 u5 u6 u7 u8 u9 u10 u11 u12 u14 u15 w')(hw:Wd base V n X M X' M' A B Z k f 47 (bl fun _=>0).toArray (bl D).toArray (L 7) (true) (L 13) u w''):Gt base V n X M X' M' A B Z k f D hd ev p bp br (fun j=>j == 12 || L j) u0 u1 u2 u3 u4 u5 u6 u7 u8 u9 u10 u11 u u14 u15 w'':=
 ⟨gk h.fa0 rfl,gk h.fa1 rfl,gk h.fa2 rfl,gk h.fa3 rfl,gk h.fa4 rfl,gk h.fa5 rfl,gk h.fa6 rfl,gk h.fa7 rfl,gk h.fa8 rfl,gk h.fa9 rfl,gk h.fa10 rfl,gk h.fa11 rfl,gk h.fa14 rfl,gk h.fa15 rfl,hw⟩
theorem Gt.set13(h:Gt base V n X M X' M' A B Z k f D hd ev p bp br L u0 u1 u2 u3 u4 u5 u6 u7 u8 u9 u10 u11 u12 u14 u15 w')(hw:Wd base V n X M X' M' A B Z k f 47 (bl fun _=>0).toArray (bl D).toArray (L 7) (L 12) (true) u12 w''):Gt base V n X M X' M' A B Z k f D hd ev p bp br (fun j=>j == 13 || L j) u0 u1 u2 u3 u4 u5 u6 u7 u8 u9 u10 u11 u12 u14 u15 w'':=
 ⟨gk h.fa0 rfl,gk h.fa1 rfl,gk h.fa2 rfl,gk h.fa3 rfl,gk h.fa4 rfl,gk h.fa5 rfl,gk h.fa6 rfl,gk h.fa7 rfl,gk h.fa8 rfl,gk h.fa9 rfl,gk h.fa10 rfl,gk h.fa11 rfl,gk h.fa14 rfl,gk h.fa15 rfl,hw⟩
theorem Gt.set14(h:Gt base V n X M X' M' A B Z k f D hd ev p bp br L u0 u1 u2 u3 u4 u5 u6 u7 u8 u9 u10 u11 u12 u14 u15 w'):Gt base V n X M X' M' A B Z k f D hd ev p bp br (fun j=>j == 14 || L j) u0 u1 u2 u3 u4 u5 u6 u7 u8 u9 u10 u11 u12 (.int .i64 hd) u15 w':=
 ⟨gk h.fa0 rfl,gk h.fa1 rfl,gk h.fa2 rfl,gk h.fa3 rfl,gk h.fa4 rfl,gk h.fa5 rfl,gk h.fa6 rfl,gk h.fa7 rfl,gk h.fa8 rfl,gk h.fa9 rfl,gk h.fa10 rfl,gk h.fa11 rfl,fun _=>rfl,gk h.fa15 rfl,h.wd⟩
theorem Gt.set15(h:Gt base V n X M X' M' A B Z k f D hd ev p bp br L u0 u1 u2 u3 u4 u5 u6 u7 u8 u9 u10 u11 u12 u14 u15 w'):Gt base V n X M X' M' A B Z k f D hd ev p bp br (fun j=>j == 15 || L j) u0 u1 u2 u3 u4 u5 u6 u7 u8 u9 u10 u11 u12 u14 (.int .i64 ev) w':=
 ⟨gk h.fa0 rfl,gk h.fa1 rfl,gk h.fa2 rfl,gk h.fa3 rfl,gk h.fa4 rfl,gk h.fa5 rfl,gk h.fa6 rfl,gk h.fa7 rfl,gk h.fa8 rfl,gk h.fa9 rfl,gk h.fa10 rfl,gk h.fa11 rfl,gk h.fa14 rfl,fun _=>rfl,h.wd⟩
end
def GtInv(x2 x5 x9 x10 x11 x12 x13 x26 x27:Value)(base:World)(V:Pl)(n:Nat)(X:Dst)(M:Tab)(X':Dst)(M':Tab)(A B Z:Int)(k:Nat)(f D:Nat→Int)(hd ev:Int)(p:Pt.Pn)(bp br:Nat)(L:Nat→Bool)(a':Act)(w':World):Prop:=
 ∃u0 u1 u2 u3 u4 u5 u6 u7 u8 u9 u10 u11 u12 u14 u15,a'={ tmps:=#[.pointer (some ⟨V.b,V.o,none⟩),.agg (Pt.pV p).toArray,x2,.pointer (some ⟨bp,0,none⟩),.pointer (some ⟨br,0,none⟩),x5,u12,u14,u15,x9,x10,x11,x12,x13,u8,u0,u1,u2,u3,u4,u5,u6,u7,u9,u10,u11,x26,x27],defers:=[] }∧Gt base V n X M X' M' A B Z k f D hd ev p bp br L u0 u1 u2 u3 u4 u5 u6 u7 u8 u9 u10 u11 u12 u14 u15 w'
theorem get_ok{w:World}{V:Pl}{n k:Nat}{X:Dst}{M:Tab}{A B Z:Int}{f:Nat→Int}(h:HasVol w V n X M A B Z k f)(hm:TabOk M)(hB:Sp.i64 B)(hkp:Rm.Kp w)(hok:Ok 23 X)(hk:0 < k)(p:Pt.Pn)(hpA:Sp.i64 p.A)(hpB:Sp.i64 p.B)(hyes:mn n X M A B Z k f p=true)(hyA:byt (tV n X M p.A))(hyB:byt (tV n X M p.B))
  {D:Nat→Int} {he e:Int} {X':Dst} {M':Tab} (hR:gRes n X M p=⟨D,he,e,X',M'⟩) (hRT:∃s,Rm.rightB s M'.gen M'.k M'.F M'.T=true) :
  Calls Tryz.prog 43 #[.pointer (some ⟨V.b,V.o,none⟩),.agg (Pt.pV p).toArray] w fun e_ w'=>e_=.returned (.tuple #[.agg (bl D).toArray,.int .i64 e])∧Tv w V n X' M' A B Z k f w':=by
 obtain⟨W,hW,hG0⟩:=Di.box_get w p
 have HMI:=Lib.hid (mine_v (h.below hG0.be) hm hB p hpA hpB)
 rw[hyes] at HMI
 have HG0:=Lib.hid hG0
 have q0:=Pt.rP hG0.p
 have HGE:=Lib.hid (fun w' (hv:HasVol w' V n X M A B Z k f) (hkp:Rm.Kp w')=>get_v hv hkp hok hm p hyA hyB)
 rw[hR] at HGE
 have HV0:=Lib.hid h
 have HKP:=Lib.hid hkp
 have HRT:=Lib.hid hRT
 have hvl:=h.lt
 have hv0n:=hasVol_ne h
 have hW2:W.heap.size=w.heap.size+2:=by rw[hW]; simp
 clear h hm hB hG0 hyes hyA hyB hR hRT hkp hok
 go_enter Tryz.func43,Tryz.ntmps43
 rw[hW] at q0
 go_wp2_with (refine @wG _ _ _ _ _ _ _ (by kernel_rfl) 24 (.tmp 3) rfl w.heap.size 0 rfl (Pt.pV p) _ q0 Pt.undP rfl (Pt.sizeP p) ?_; simp only[Act.put,aA])
 rw[←hW]
 clear hW q0
 refine HMI.out.mono ?_
 rintro _ w1 ⟨rfl,hb1⟩
 have hg1:=HG0.out.below hb1
 have hz1:=hg1.f
 have hp1:=hg1.p
 have hbe:=hg1.be
 have hs1:=hb1.size
 have HF:Hid (Tv w V n X M A B Z k f w1):=Lib.hid (Tv.of HV0.out hbe)
 have HO:Hid (Off w1 V (w.heap.size+1)):=Lib.hid ((Off.new HV0.out hk (by omega)).below hvl hbe)
 have hK1:=HKP.out.below hbe
 have HZ1:=Lib.hid hz1
 have HPB:=Lib.hid (fun w' (hg:w1.grownBy w' (some V.b))=>Pt.rP ((hg.block w.heap.size (by omega) (by simp; omega)).trans hp1))
 have HKK:=Lib.hid (fun w' (hg:w1.grownBy w' (some V.b))=>hK1.grown hg hv0n)
 have HSTART:=Lib.hid (Wd.start (X':=X') (M':=M') (T:=47) (old:=(bl fun _=>0).toArray) (new:=(bl D).toArray) (u:=undef) HF.out.v)
 clear HMI HG0 hg1 HV0 HKP hz1 hp1 hbe hb1 hK1
 dsimp only
 go_wp2_with fail
 refine QuietTail2.regionInv (n:=16) (Inv:=GtInv _ _ _ _ _ _ _ _ _ w1 V n X M X' M' A B Z k f D he e p w.heap.size (w.heap.size+1)) (by kernel_rfl) (by decide) (by kernel_rfl) ⟨_,_,_,_,_,_,_,_,_,_,_,_,_,_,_,rfl,⟨by simp,by simp,by simp,by simp,by simp,by simp,by simp,by simp,by simp,by simp,by simp,by simp,by simp,by simp,?_⟩⟩ ?step ?fin
 exact HSTART.out
 case step=>
  rintro i o hi ho L a' w' ⟨u0,u1,u2,u3,u4,u5,u6,u7,u8,u9,u10,u11,u12,u14,u15,rfl,TT⟩ hL hpre
  match i,hi with
  | 0,_=>
   simp at ho
   subst ho
   go_simp
   exact⟨_,u1,u2,u3,u4,u5,u6,u7,u8,u9,u10,u11,u12,u14,u15,rfl,TT.set0⟩
  | 1,_=>
   simp at ho
   subst ho
   obtain rfl:=TT.fa0 (hpre 0 (by kernel_rfl))
   go_simp
   exact⟨_,_,u2,u3,u4,u5,u6,u7,u8,u9,u10,u11,u12,u14,u15,rfl,TT.set1⟩
  | 2,_=>
   simp at ho
   subst ho
   obtain rfl:=TT.fa1 (hpre 1 (by kernel_rfl))
   go_simp
   exact⟨u0,_,_,u3,u4,u5,u6,u7,u8,u9,u10,u11,u12,u14,u15,rfl,TT.set2⟩
  | 3,_=>
   simp at ho
   subst ho
   go_simp
   exact⟨u0,u1,u2,_,u4,u5,u6,u7,u8,u9,u10,u11,u12,u14,u15,rfl,TT.set3⟩
  | 4,_=>
   simp at ho
   subst ho
   obtain rfl:=TT.fa3 (hpre 3 (by kernel_rfl))
   go_simp
   exact⟨u0,u1,u2,_,_,u5,u6,u7,u8,u9,u10,u11,u12,u14,u15,rfl,TT.set4⟩
  | 5,_=>
   simp at ho
   subst ho
   obtain rfl:=TT.fa4 (hpre 4 (by kernel_rfl))
   go_simp
   exact⟨u0,u1,u2,u3,_,_,u6,u7,u8,u9,u10,u11,u12,u14,u15,rfl,TT.set5⟩
  | 6,_=>
   simp at ho
   subst ho
   refine wp_load_mid 24 (.tmp 3) rfl w.heap.size 0 rfl (Pt.pV p) _ (HPB.out w' TT.wd.g) Pt.undP rfl (Pt.sizeP p) ?_
   simp only[Act.put,aA]
   exact⟨u0,u1,u2,u3,u4,u5,_,u7,u8,u9,u10,u11,u12,u14,u15,rfl,TT.set6⟩
  | 7,_=>
   simp at ho
   subst ho
   obtain rfl:=TT.fa2 (hpre 2 (by kernel_rfl))
   obtain rfl:=TT.fa5 (hpre 5 (by kernel_rfl))
   obtain rfl:=TT.fa6 (hpre 6 (by kernel_rfl))
   go_simp
   refine(HGE.out w' (TT.wd.p0 hL) (HKK.out w' TT.wd.g)).mono ?_
   rintro _ w'' ⟨rfl,hT⟩
   exact⟨u0,u1,_,u3,u4,_,_,_,u8,u9,u10,u11,u12,u14,u15,rfl,TT.set7 (TT.wd.call hL hT)⟩
  | 8,_=>
   simp at ho
   subst ho
   obtain rfl:=TT.fa7 (hpre 7 (by kernel_rfl))
   go_simp
   exact⟨u0,u1,u2,u3,u4,u5,u6,_,_,u9,u10,u11,u12,u14,u15,rfl,TT.set8⟩
  | 9,_=>
   simp at ho
   subst ho
   obtain rfl:=TT.fa8 (hpre 8 (by kernel_rfl))
   go_simp
   exact⟨u0,u1,u2,u3,u4,u5,u6,u7,_,_,u10,u11,u12,u14,u15,rfl,TT.set9⟩
  | 10,_=>
   simp at ho
   subst ho
   obtain rfl:=TT.fa8 (hpre 8 (by kernel_rfl))
   go_simp
   exact⟨u0,u1,u2,u3,u4,u5,u6,u7,_,u9,_,u11,u12,u14,u15,rfl,TT.set10⟩
  | 11,_=>
   simp at ho
   subst ho
   obtain rfl:=TT.fa8 (hpre 8 (by kernel_rfl))
   go_simp
   exact⟨u0,u1,u2,u3,u4,u5,u6,u7,_,u9,u10,_,u12,u14,u15,rfl,TT.set11⟩
  | 12,_=>
   simp at ho
   subst ho
   go_simp
   exact⟨u0,u1,u2,u3,u4,u5,u6,u7,u8,u9,u10,u11,_,u14,u15,rfl,TT.set12 (TT.wd.alloc hL hk)⟩
  | 13,_=>
   simp at ho
   subst ho
   have hw:=TT.wd
   obtain⟨bk,e1,h1,h2,h3⟩:=hw.al (hpre 12 (by kernel_rfl))
   obtain rfl:=e1
   obtain rfl:=TT.fa9 (hpre 9 (by kernel_rfl))
   rw[hpre 7 (by kernel_rfl),hpre 12 (by kernel_rfl),hL] at hw
   refine wp_store_row 47 (.tmp 6) (.tmp 23) rfl bk (bl D).toArray rfl rfl 47 _ (hw.row rfl rfl) (size_bl' _) (by simp[bL]) (bl_all _) ?_
   simp only[Act.put]
   refine⟨u0,u1,u2,u3,u4,u5,u6,u7,u8,_,u10,u11,_,u14,u15,rfl,TT.set13 ?_⟩
   rw[hpre 7 (by kernel_rfl),hpre 12 (by kernel_rfl)]
   exact hw.store hk (by decide) (by decide) (.inr ⟨HRT.out,fun i z=>bl_small _ i z⟩)
  | 14,_=>
   simp at ho
   subst ho
   obtain rfl:=TT.fa10 (hpre 10 (by kernel_rfl))
   go_simp
   exact⟨u0,u1,u2,u3,u4,u5,u6,u7,u8,u9,_,u11,u12,_,u15,rfl,TT.set14⟩
  | 15,_=>
   simp at ho
   subst ho
   obtain rfl:=TT.fa11 (hpre 11 (by kernel_rfl))
   go_simp
   exact⟨u0,u1,u2,u3,u4,u5,u6,u7,u8,u9,u10,_,u12,u14,_,rfl,TT.set15⟩
  | i+16,h=>omega
 case fin=>
  rintro L a' w' hall ⟨u0,u1,u2,u3,u4,u5,u6,u7,u8,u9,u10,u11,u12,u14,u15,rfl,TT⟩
  have HWD:=Lib.hid (by have:=TT.wd; rwa [hall 7 (by omega),hall 12 (by omega),hall 13 (by omega)] at this:Wd w1 V n X M X' M' A B Z k f 47 (bl fun _=>0).toArray (bl D).toArray true true true u12 w')
  obtain⟨bk,e1,h1,h2,h3⟩:=HWD.out.al rfl
  obtain rfl:=e1
  obtain rfl:=TT.fa15 (hall 15 (by omega))
  have hT:=(⟨HWD.out.p1 rfl,HWD.out.g,HWD.out.l⟩:Tv w1 V n X' M' A B Z k f w')
  have HFF:=Lib.hid (HF.out.trans hT)
  have hz5:=(HWD.out.g.block (w.heap.size+1) (by omega) (by simp; omega)).trans HZ1.out
  have HO5:=Lib.hid (HO.out.loc (by omega) hT.l)
  have q5:=row_all h3
  clear TT h1 h2 h3 hT
  refine wpList_nil ?_
  go_wp2_with (first
   | (refine @wG _ _ _ _ _ _ _ (by kernel_rfl) 47 (.tmp 6) rfl bk 0 rfl (bl D) _ q5 undB rfl (sB D) ?_; simp only[Act.put,aA])
   | (refine wpList_store_row rfl 47 (.tmp 4) (.tmp 26) rfl (w.heap.size+1) (bl D).toArray rfl rfl 47 _ hz5 (size_bl' _) (by simp[bL]) (bl_all _) ?_; simp only[Act.put]))
  refine bodyPost_ret (results_bl rfl rfl rfl (setRow_heap _ _ _ _ _ _ hz5)) rfl ?_
  obtain⟨hf1,hf2⟩:=hasVol_only HFF.out.v hk HO5.out hz5 (by decide) (by decide) (.inr ⟨HRT.out,fun i z=>bl_small _ i z⟩) (gR (bl D).toArray)
  exact⟨rfl,hf1,grown_only HFF.out.g (Nat.le_succ _) (gR _),HFF.out.l.trans (Loc.same (World.cell?_of_block (setRow_other _ _ _ _ (show V.b≠w.heap.size+1 by omega)))) HFF.out.g.size⟩
end Vl
namespace Vl
open Go.RowKit Dk Gm Eqb Rm Vm Di
attribute [local go_sem] zv29
attribute [local go_sem] Pt.zvP
attribute [local go_sem] zc29
structure Wq(base:World)(V:Pl)(n:Nat)(X:Dst)(M:Tab)(X':Dst)(M':Tab)(A B Z:Int)(k:Nat)(f f':Nat→Int)(bc:Bool)(w':World):Prop where
 g:base.grownBy w' (some V.b)
 l:Loc base V w'
 p0:bc=false→HasVol w' V n X M A B Z k f
 p1:bc=true→HasVol w' V n X' M' A B Z k f'
section
variable {base:World}{V:Pl}{n:Nat}{X X':Dst}{M M':Tab}{A B Z:Int}{k:Nat}{f f':Nat→Int}{bc:Bool}{w' w'':World}
theorem Wq.start(h:HasVol base V n X M A B Z k f):Wq base V n X M X' M' A B Z k f f' false { base with drawn:=base.drawn+1 }:=
 ⟨⟨rfl,rfl,rfl,Nat.le_refl _,fun _ _ _=>rfl⟩,fun _ _ _ k c e=>.inr ⟨k,c,e⟩,fun _=>h.below ⟨rfl,rfl,rfl,Nat.le_refl _,fun _ _=>rfl⟩,(fun e=>by cases e)⟩
theorem Wq.call(h:Wq base V n X M X' M' A B Z k f f' bc w')(_hc:bc=false)(ht:Tv w' V n X' M' A B Z k f' w''):Wq base V n X M X' M' A B Z k f f' true w'':=
 ⟨Dk.oT h.g ht.g,h.l.trans ht.l h.g.size,(fun e=>by cases e),fun _=>ht.v⟩
end
structure Dp(base:World)(V:Pl)(n:Nat)(X:Dst)(M:Tab)(A B Z:Int)(k:Nat)(f f':Nat→Int)(E:Int)(p:Pt.Pn)(bp:Nat)(L:Nat→Bool)(u0 u1 u2 u3 u4 u5:Value)(w':World):Prop where
 fa0:L 0=true→u0=.pointer (some ⟨V.b,V.o,none⟩)
 fa1:L 1=true→u1=.pointer (some ⟨V.b,V.o,none⟩)
 fa2:L 2=true→u2=.pointer (some ⟨V.b,V.o+6,none⟩)
 fa3:L 3=true→u3=.agg (Pt.pV p).toArray
 fa4:L 4=true→u4=.int .i64 E
 fa5:L 5=true→u5=.int .i64 E
 wd:Wq base V n X M X M A B Z k f f' (L 4) w'
theorem Dp_kl{L:Nat→Bool}{i k:Nat}{Q:Prop}(h:L k=true→Q)(h1:(k == i)=false):(k == i || L k)=true→Q:=by
 rw[h1,Bool.false_or]
 exact h
section
variable {base:World}{V:Pl}{n:Nat}{X:Dst}{M:Tab}{A B Z:Int}{k:Nat}{f f':Nat→Int}{E:Int}{p:Pt.Pn}{bp:Nat}{L:Nat→Bool}{u0 u1 u2 u3 u4 u5:Value}{w' w'':World}
theorem Dp.set0(h:Dp base V n X M A B Z k f f' E p bp L u0 u1 u2 u3 u4 u5 w'):Dp base V n X M A B Z k f f' E p bp (fun j=>j == 0 || L j) (.pointer (some ⟨V.b,V.o,none⟩)) u1 u2 u3 u4 u5 w':=
 ⟨fun _=>rfl,Dp_kl h.fa1 rfl,Dp_kl h.fa2 rfl,Dp_kl h.fa3 rfl,Dp_kl h.fa4 rfl,Dp_kl h.fa5 rfl,h.wd⟩
theorem Dp.set1(h:Dp base V n X M A B Z k f f' E p bp L u0 u1 u2 u3 u4 u5 w'):Dp base V n X M A B Z k f f' E p bp (fun j=>j == 1 || L j) u0 (.pointer (some ⟨V.b,V.o,none⟩)) u2 u3 u4 u5 w':=
 ⟨Dp_kl h.fa0 rfl,fun _=>rfl,Dp_kl h.fa2 rfl,Dp_kl h.fa3 rfl,Dp_kl h.fa4 rfl,Dp_kl h.fa5 rfl,h.wd⟩
theorem Dp.set2(h:Dp base V n X M A B Z k f f' E p bp L u0 u1 u2 u3 u4 u5 w'):Dp base V n X M A B Z k f f' E p bp (fun j=>j == 2 || L j) u0 u1 (.pointer (some ⟨V.b,V.o+6,none⟩)) u3 u4 u5 w':=
 ⟨Dp_kl h.fa0 rfl,Dp_kl h.fa1 rfl,fun _=>rfl,Dp_kl h.fa3 rfl,Dp_kl h.fa4 rfl,Dp_kl h.fa5 rfl,h.wd⟩
theorem Dp.set3(h:Dp base V n X M A B Z k f f' E p bp L u0 u1 u2 u3 u4 u5 w'):Dp base V n X M A B Z k f f' E p bp (fun j=>j == 3 || L j) u0 u1 u2 (.agg (Pt.pV p).toArray) u4 u5 w':=
 ⟨Dp_kl h.fa0 rfl,Dp_kl h.fa1 rfl,Dp_kl h.fa2 rfl,fun _=>rfl,Dp_kl h.fa4 rfl,Dp_kl h.fa5 rfl,h.wd⟩
theorem Dp.set4(h:Dp base V n X M A B Z k f f' E p bp L u0 u1 u2 u3 u4 u5 w')(hw:Wq base V n X M X M A B Z k f f' true w''):Dp base V n X M A B Z k f f' E p bp (fun j=>j == 4 || L j) u0 u1 u2 u3 (.int .i64 E) u5 w'':=
 ⟨Dp_kl h.fa0 rfl,Dp_kl h.fa1 rfl,Dp_kl h.fa2 rfl,Dp_kl h.fa3 rfl,fun _=>rfl,Dp_kl h.fa5 rfl,hw⟩
theorem Dp.set5(h:Dp base V n X M A B Z k f f' E p bp L u0 u1 u2 u3 u4 u5 w'):Dp base V n X M A B Z k f f' E p bp (fun j=>j == 5 || L j) u0 u1 u2 u3 u4 (.int .i64 E) w':=
 ⟨Dp_kl h.fa0 rfl,Dp_kl h.fa1 rfl,Dp_kl h.fa2 rfl,Dp_kl h.fa3 rfl,Dp_kl h.fa4 rfl,fun _=>rfl,h.wd⟩
end
def DpInv(x2 x5 x6 x7 x8:Value)(base:World)(V:Pl)(n:Nat)(X:Dst)(M:Tab)(A B Z:Int)(k:Nat)(f f':Nat→Int)(E:Int)(p:Pt.Pn)(bp:Nat)(L:Nat→Bool)(a':Act)(w':World):Prop:=
 ∃u0 u1 u2 u3 u4 u5,a'={ tmps:=#[.pointer (some ⟨V.b,V.o,none⟩),.agg (Pt.pV p).toArray,x2,.pointer (some ⟨bp,0,none⟩),u5,x5,x6,x7,x8,u0,u1,u2,u3,u4],defers:=[] }∧Dp base V n X M A B Z k f f' E p bp L u0 u1 u2 u3 u4 u5 w'
theorem drop_ok{w:World}{V:Pl}{n k:Nat}{X:Dst}{M:Tab}{A B Z:Int}{f:Nat→Int}(h:HasVol w V n X M A B Z k f)(hm:TabOk M)(hB:Sp.i64 B)(hk:0 < k)(p:Pt.Pn)(hpA:Sp.i64 p.A)(hpB:Sp.i64 p.B)(hyes:mn n X M A B Z k f p=true){E:Int}(hE:Sp.drE A B Z k f p=E){F:Nat→Int}(hF:Sp.drF A B Z k f p=F) :
  Calls Tryz.prog 106 #[.pointer (some ⟨V.b,V.o,none⟩),.agg (Pt.pV p).toArray] w fun e w'=>e=.returned (.int .i64 E)∧Tv w V n X M A B Z k F w':=by
 obtain⟨hb0,hx0,hs0⟩:=Pt.box_pt w p
 have HMI:=Lib.hid (mine_v (h.below hb0) hm hB p hpA hpB)
 rw[hyes] at HMI
 have q0:=Pt.rP hx0
 have HX0:=Lib.hid hx0
 have HB0:=Lib.hid hb0
 have HV0:=Lib.hid h
 have hvl:=h.lt
 have HDR:=Lib.hid (fun w' (hv:HasVol w' V n X M A B Z k f)=>drop_v hv hk hB p hpA hpB)
 rw[hE,hF] at HDR
 clear h hm hB hyes hx0 hE hF hb0
 go_enter Tryz.func106,Tryz.ntmps106
 go_wp2_with (refine @wG _ _ _ _ _ _ _ (by kernel_rfl) 24 (.tmp 3) rfl w.heap.size 0 rfl (Pt.pV p) _ q0 Pt.undP rfl (Pt.sizeP p) ?_; simp only[Act.put,aA])
 refine HMI.out.mono ?_
 rintro _ w1 ⟨rfl,hb1⟩
 have hs1:=hb1.size
 have hp1:=(hb1.block w.heap.size (by omega)).trans HX0.out
 have HT1:Hid (Tv w V n X M A B Z k f w1):=Lib.hid (Tv.of HV0.out (HB0.out.trans (hb1.mono HB0.out.size)))
 have HPB:=Lib.hid (fun w' (hg:w1.grownBy w' (some V.b))=>Pt.rP ((hg.block w.heap.size (by omega) (by simp; omega)).trans hp1))
 have HSTART:=Lib.hid (Wq.start (X':=X) (M':=M) (f':=F) HT1.out.v)
 clear HMI q0 HX0 HB0 HV0 hb1 hp1
 dsimp only
 go_wp2_with fail
 refine QuietTail2.regionInv (n:=6) (Inv:=DpInv _ _ _ _ _ w1 V n X M A B Z k (f) (F) E p (w.heap.size)) (by kernel_rfl) (by decide) (by kernel_rfl) ⟨_,_,_,_,_,_,rfl,⟨by simp,by simp,by simp,by simp,by simp,by simp,?_⟩⟩ ?step ?fin
 exact HSTART.out
 case step=>
  rintro i o hi ho L a' w' ⟨u0,u1,u2,u3,u4,u5,rfl,TT⟩ hL hpre
  match i,hi with
  | 0,_=>
   simp at ho
   subst ho
   go_simp
   exact⟨_,u1,u2,u3,u4,u5,rfl,TT.set0⟩
  | 1,_=>
   simp at ho
   subst ho
   obtain rfl:=TT.fa0 (hpre 0 (by kernel_rfl))
   go_simp
   exact⟨_,_,u2,u3,u4,u5,rfl,TT.set1⟩
  | 2,_=>
   simp at ho
   subst ho
   obtain rfl:=TT.fa1 (hpre 1 (by kernel_rfl))
   go_simp
   exact⟨u0,_,_,u3,u4,u5,rfl,TT.set2⟩
  | 3,_=>
   simp at ho
   subst ho
   refine wp_load_mid 24 (.tmp 3) rfl w.heap.size 0 rfl (Pt.pV p) _ (HPB.out w' TT.wd.g) Pt.undP rfl (Pt.sizeP p) ?_
   simp only[Act.put,aA]
   exact⟨u0,u1,u2,_,u4,u5,rfl,TT.set3⟩
  | 4,_=>
   simp at ho
   subst ho
   obtain rfl:=TT.fa2 (hpre 2 (by kernel_rfl))
   obtain rfl:=TT.fa3 (hpre 3 (by kernel_rfl))
   go_simp
   refine(HDR.out w' (TT.wd.p0 hL)).mono ?_
   rintro _ w'' ⟨rfl,hT⟩
   exact⟨u0,u1,_,_,_,u5,rfl,TT.set4 (TT.wd.call hL hT)⟩
  | 5,_=>
   simp at ho
   subst ho
   obtain rfl:=TT.fa4 (hpre 4 (by kernel_rfl))
   go_simp
   exact⟨u0,u1,u2,u3,_,_,rfl,TT.set5⟩
  | i+6,h=>omega
 case fin=>
  rintro L a' w' hall ⟨u0,u1,u2,u3,u4,u5,rfl,TT⟩
  have hWD:Wq w1 V n X M X M A B Z k f F true w':=by have:=TT.wd; rwa [hall 4 (by omega)] at this
  obtain rfl:=TT.fa5 (hall 5 (by omega))
  have hT:=HT1.out.trans (⟨hWD.p1 rfl,hWD.g,hWD.l⟩:Tv w1 V n X M A B Z k F w')
  clear TT hWD HPB HDR HT1 HSTART
  refine wpList_nil ?_
  go_wp2_with fail
  go_ret
  exact⟨rfl,hT⟩
end Vl
namespace Vl
open Go.RowKit Dk Gm Eqb Rm Vm Di Byt
abbrev Hd:=Pt.Pn × (Nat→Int)
def hV(h:Hd):List Value:=Pt.pV h.1 ++ bl h.2
def hd0:Hd:=(Pt.pz,fun _=>0)
def hcs(H:List Hd):List Value:=H.flatMap hV
section
variable {w w':World}{base:Nat}{v:Value}{H:List Hd}
end
section
variable {w:World}{base n c b:Nat}{a:Option Addr}{H:List Hd}
end
end Vl
namespace Vl
open Go.RowKit Dk Gm Eqb
attribute [local irreducible] wpQuiet
def secU(A B Z:Int)(f:Nat→Int)(x:Int):Bool:=x == -1 || (decide (0≤Sp.plI A B Z x) && Sp.us (f (Sp.plI A B Z x).toNat))
theorem dr_secs{A B Z:Int}{n:Nat}{f:Nat→Int}(hf:Sp.formB A B Z n f=true)(p:Pt.Pn):Sp.drB A B Z n f p=(Pt.rightB p && (secU A B Z f p.A && secU A B Z f p.B)):=by
 unfold Sp.drB Sp.plB Sp.anyP Sp.pls Sp.pla Sp.okB secU
 rw[hf]
 generalize Pt.rightB p=r
 by_cases eA:p.A = -1
 ·rw[if_pos eA,eA]
  by_cases eB:p.B = -1
  ·rw[if_pos eB,eB]
   cases r <;> rfl
  ·have eB':(p.B == -1)=false:=by simpa using eB
   rw[if_neg eB,eB']
   generalize decide (0≤Sp.plI A B Z p.B)=b
   simp only[List.nil_append,List.any_cons,List.any_nil]
   generalize Sp.us (f (Sp.plI A B Z p.B).toNat)=v
   cases r <;> cases b <;> cases v <;> rfl
 ·have eA':(p.A == -1)=false:=by simpa using eA
  rw[if_neg eA,eA']
  generalize decide (0≤Sp.plI A B Z p.A)=a
  by_cases eB:p.B = -1
  ·rw[if_pos eB,eB]
   simp only[List.append_nil,List.any_cons,List.any_nil]
   generalize Sp.us (f (Sp.plI A B Z p.A).toNat)=u
   cases r <;> cases a <;> cases u <;> rfl
  ·have eB':(p.B == -1)=false:=by simpa using eB
   rw[if_neg eB,eB']
   generalize decide (0≤Sp.plI A B Z p.B)=b
   simp only[List.cons_append,List.nil_append,List.any_cons,List.any_nil]
   generalize Sp.us (f (Sp.plI A B Z p.A).toNat)=u
   generalize Sp.us (f (Sp.plI A B Z p.B).toNat)=v
   cases r <;> cases a <;> cases b <;> cases u <;> cases v <;> rfl
end Vl
namespace Vm
open Go.RowKit Dk Byt Eqb Rm Di
theorem act_neg{f:Int}(h:f < 0):actE f false=0∧actF f false=f∧actD f false=false:=by
 unfold actE actF actD
 refine⟨?_,?_,?_⟩
 ·rw[if_neg (by simp; omega)]
 ·simp; omega
 ·simp; omega
theorem wr_well{n:Nat}{X:Dst}{a:Int}(hf:formed n X)(hd:X.d=false)(hn:X.f < 0)(ha:0≤a∧a < n)(hw:(X.S a.toNat).noWrite=false):dWrE n X a=0:=by
 obtain⟨e1,_,_⟩:=act_neg hn
 have ho:wrOk n X.m X.C a=true:=by
  unfold wrOk hasB
  rw[show formedB n X.m X.C=true from hf,decide_eq_true ha.1,decide_eq_true ha.2]
  rfl
 unfold dWrE wrE
 rw[ho,if_pos rfl,hd,e1,if_pos rfl,hw]
 rfl
theorem fl_well{n:Nat}{X:Dst}(hf:formed n X)(hd:X.d=false)(hn:X.f < 0):dFlE n X=0:=by
 unfold dFlE flE
 rw[show formedB n X.m X.C=true from hf,if_pos rfl,hd]
 exact(act_neg hn).1
def nw(X:Dst)(a:Int):Bool:=(X.S a.toNat).noWrite
theorem st_nw{S:Nat→Sec}{C:Nat→Wr}{kp:Nat→Bool}(i:Nat):∀m,(stS S C kp m i).noWrite=(S i).noWrite
 | 0=>rfl
 | m+1=>by
  have ih:=st_nw (S:=S) (C:=C) (kp:=kp) i m
  simp only[stS]
  split
  ·unfold upd
   split
   ·rename_i e
    rw[←e]
    exact ih
   ·exact ih
  ·exact ih
theorem sum_same{D E:Nat→Int}(h:∀i,i < 128→D i=E i):Pt.sumD D=Pt.sumD E:=by
 have e:tab 128 D=tab 128 E:=List.map_congr_left fun i hi=>h i (List.mem_range.1 hi)
 unfold Pt.sumD
 rw[e]
def vM:Tab:=⟨0,0,fun _=>0,fun _=>0⟩
theorem at0(x:Int):atT vM.F vM.T vM.k x=x:=rfl
def vX0:Dst:=⟨0,fun _=>sec0,fun _=>wr0,-1,false⟩
end Vm
namespace Vl
open Go.RowKit Dk Gm Eqb Rm Vm Di
theorem secU_none(f:Nat→Int):secU 28 184 128 f (-1)=true:=rfl
theorem tabM:TabOk vM:=⟨by show 0≤_; omega,fun i hi=>by have hi':i < 0:=hi; omega⟩
theorem fits_hole(D:Nat→Int):Pt.fitsB Pt.hole D=Wd.zeroB D 128:=rfl
end Vl
namespace Vp
open Go.RowKit Dk Gm Eqb Rm Vm Di Vl
def one(i z:Nat):Nat→Int:=fun j=>if j=i then (z:Int) else 0
def ps(H:List Hd):List Pt.Pn:=H.map (·.1)
def Fl:Int→Prop:=fun _=>False
theorem sx_perm{H H':List Hd}(p:H.Perm H'):(sx (ps H)).Perm (sx (ps H')):=(p.map _).flatMap_right _
theorem secs_hole:Sp.secs Pt.hole=[]:=rfl
theorem ps_append(H H':List Hd):ps (H ++ H')=ps H ++ ps H':=by simp[ps]
section
variable {X:Dst}{f:Nat→Int}{H H':List Hd}
end
end Vp
namespace Vl
open Go.RowKit Dk Gm Eqb Rm Vm Di
def g4:Array Value:=#[.int .i64 332,.int .i64 156,.int .i64 2,.int .i64 4,.int .i64 28,.int .i64 128]
theorem vol_one(sa:Option Addr)(n sc:Nat)(ca:Option Addr)(m cc:Nat)(fu:Int)(d:Bool)(gen:Int)(pa:Option Addr)(k cap:Nat)(A B Z:Int)(ao:Option Addr)(kk kc:Nat) :
  (#[.slice sa n sc,.slice ca m cc,.int .i64 fu,.bool d,.int .i64 gen,.slice pa k cap,.int .i64 A,.int .i64 B,.int .i64 Z,.slice ao kk kc]:Array Value).all (·.oneCell')=true:=by simp[Value.oneCell']
theorem vol_size(v0 v1 v2 v3 v4 v5 v6 v7 v8 v9:Value):(Tryz.prog.info? 43).map (·.size)=some (#[v0,v1,v2,v3,v4,v5,v6,v7,v8,v9]:Array Value).size:=by show _=some 10; kernel_rfl
theorem Vb.results2{w:World}{b:Nat}{v0 v1 v2 v3 v4 v5 v6 v7 v8 v9:Value}{e:Int}(h:Vb w b v0 v1 v2 v3 v4 v5 v6 v7 v8 v9){tmps:Array Value}{fn:Func}{s r:Nat}(hf:fn.results=#[.cell s 43,.tmp r])(h2:tmps.getD s undef=.pointer (some ⟨b,0,none⟩))(h3:tmps.getD r undef=.int .i64 e) :
  (Go.results fn tmps).run Tryz.prog w=.ok (.tuple #[.agg #[v0,v1,v2,v3,v4,v5,v6,v7,v8,v9],.int .i64 e]) w:=by
 have h2':tmps[s]?.getD undef=.pointer (some ⟨b,0,none⟩):=by simpa using h2
 have h3':tmps[r]?.getD undef=.int .i64 e:=by simpa using h3
 have hv:=run_loadVar_row (P:=Tryz.prog) w b 43 43 #[v0,v1,v2,v3,v4,v5,v6,v7,v8,v9] (0,0) _ h undV rfl (by show _=some 10; kernel_rfl)
 simp[Go.results,hf,h2',h3',asAddr,hv]
end Vl
namespace Vl
open Go.RowKit Dk Gm Eqb Rm Vm Di
theorem lay_row{w:World}{b g:Nat}{ao:Option Addr}{n cap k:Nat}{T:Nat→List Value}{t t':TypeId}{cur:Array Value}{fr:Nat × Nat}(hl:Lay w w.heap.size g ao n cap k T)(ht:Ty w n ao t)(hb:w.heap[b]?=some (.cells cur t' fr))(hne:t'≠t)(c:Array Value) :
  Lay (w.setRow b c) (w.setRow b c).heap.size (w.setRow b c).heap.size ao n cap k T∧Ty (w.setRow b c) n ao t:=by
 have hg:w.grownBy (w.setRow b c) (some b):=gR c
 have hz:=ht.ne hb hne
 constructor
 ·refine Lay.more (B:=w.heap.size) ⟨hl.room,hl.nil,?_⟩ hg.size
  rcases hl.rows with h0 | ⟨q,off,e,hq,_,hr⟩
  ·exact .inl h0
  ·rcases hz with h0 | hz
   ·exact .inl h0
   ·exact .inr ⟨q,off,e,hq,by have:=hg.size; omega,fun i hi j v hv=>(World.cell?_of_block (hg.block q hq (by simpa using hz q off _ e))).trans (hr i hi j v hv)⟩
 ·rcases hz with h0 | hz
  ·exact .inl h0
  ·exact ht.grown2 (g:=g) hg hl fun q o e=>.inr (by simpa using hz q o _ e)
end Vl
end Go.Proofs.YteaocagepfgfnaaGreatDoor
