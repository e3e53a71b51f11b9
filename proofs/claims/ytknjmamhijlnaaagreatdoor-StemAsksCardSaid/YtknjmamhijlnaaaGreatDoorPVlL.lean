import Derived.Test.YtknjmamhijlnaaaGreatDoorPQmN
import Derived.Test.YtknjmamhijlnaaaGreatDoorPAl
set_option maxRecDepth 100000
set_option maxHeartbeats 8000000
namespace Go.Proofs.YtknjmamhijlnaaaGreatDoor
namespace Vl
open Go.RowKit Dk Gm Eqb Rm Vm Di
attribute [local go_sem] zv29
attribute [local go_sem] Pt.zvP
attribute [local go_sem] zc29
structure Gt(base:World)(V:Pl)(n:Nat)(X:Dst)(M:Tab)(X':Dst)(M':Tab)(A B Z:Int)(k:Nat)(f D:Nat→Int)(hd ev:Int)(p:Pt.Pn)(bp br:Nat)(L:Nat→Bool)(u0 u1 u2 u3 u4 u5 u6 u7 u8 u9 u10 u11 u12 u14 u15:Value)(w':World):Prop where
 fa0:L 0=true→u0=.pointer (some ⟨V.b,V.o,none⟩)
 fa1:L 1=true→u1=.pointer (some ⟨V.b,V.o,none⟩)
 fa2:L 2=true→u2=.pointer (some ⟨V.b,V.o,none⟩)
 fa3:L 3=true→u3=.pointer (some ⟨V.b,V.o,none⟩)
 fa4:L 4=true→u4=.pointer (some ⟨V.b,V.o,none⟩)
 fa5:L 5=true→u5=.pointer (some ⟨V.b,V.o+4,none⟩)
 fa6:L 6=true→u6=.agg (Pt.pV p).toArray
 fa7:L 7=true→u7=.tuple #[.agg (bl D).toArray,.int .i64 hd,.int .i64 ev]
 fa8:L 8=true→u8=.tuple #[.agg (bl D).toArray,.int .i64 hd,.int .i64 ev]
 fa9:L 9=true→u9=.agg (bl D).toArray
 fa10:L 10=true→u10=.int .i64 hd
 fa11:L 11=true→u11=.int .i64 ev
 fa14:L 14=true→u14=.int .i64 hd
 fa15:L 15=true→u15=.int .i64 ev
 wd:Wd base V n X M X' M' A B Z k f 51 (bl fun _=>0).toArray (bl D).toArray (L 7) (L 12) (L 13) u12 w'
theorem gk{L:Nat→Bool}{i k:Nat}{Q:Prop}(h:L k=true→Q)(h1:(k == i)=false):(k == i || L k)=true→Q:=by
 rw[h1,Bool.false_or]
 exact h
section
variable {base:World}{V:Pl}{n:Nat}{X:Dst}{M:Tab}{X':Dst}{M':Tab}{A B Z:Int}{k:Nat}{f D:Nat→Int}{hd ev:Int}{p:Pt.Pn}{bp br:Nat}{L:Nat→Bool}{u0 u1 u2 u3 u4 u5 u6 u7 u8 u9 u10 u11 u12 u14 u15:Value}{w' w'':World}
theorem Gt.set0(h:Gt base V n X M X' M' A B Z k f D hd ev p bp br L u0 u1 u2 u3 u4 u5 u6 u7 u8 u9 u10 u11 u12 u14 u15 w'):Gt base V n X M X' M' A B Z k f D hd ev p bp br (fun j=>j == 0 || L j) (.pointer (some ⟨V.b,V.o,none⟩)) u1 u2 u3 u4 u5 u6 u7 u8 u9 u10 u11 u12 u14 u15 w':=
 ⟨fun _=>rfl,gk h.fa1 rfl,gk h.fa2 rfl,gk h.fa3 rfl,gk h.fa4 rfl,gk h.fa5 rfl,gk h.fa6 rfl,gk h.fa7 rfl,gk h.fa8 rfl,gk h.fa9 rfl,gk h.fa10 rfl,gk h.fa11 rfl,gk h.fa14 rfl,gk h.fa15 rfl,h.wd⟩
theorem Gt.set1(h:Gt base V n X M X' M' A B Z k f D hd ev p bp br L u0 u1 u2 u3 u4 u5 u6 u7 u8 u9 u10 u11 u12 u14 u15 w'):Gt base V n X M X' M' A B Z k f D hd ev p bp br (fun j=>j == 1 || L j) u0 (.pointer (some ⟨V.b,V.o,none⟩)) u2 u3 u4 u5 u6 u7 u8 u9 u10 u11 u12 u14 u15 w':=
 ⟨gk h.fa0 rfl,fun _=>rfl,gk h.fa2 rfl,gk h.fa3 rfl,gk h.fa4 rfl,gk h.fa5 rfl,gk h.fa6 rfl,gk h.fa7 rfl,gk h.fa8 rfl,gk h.fa9 rfl,gk h.fa10 rfl,gk h.fa11 rfl,gk h.fa14 rfl,gk h.fa15 rfl,h.wd⟩
theorem Gt.set2(h:Gt base V n X M X' M' A B Z k f D hd ev p bp br L u0 u1 u2 u3 u4 u5 u6 u7 u8 u9 u10 u11 u12 u14 u15 w'):Gt base V n X M X' M' A B Z k f D hd ev p bp br (fun j=>j == 2 || L j) u0 u1 (.pointer (some ⟨V.b,V.o,none⟩)) u3 u4 u5 u6 u7 u8 u9 u10 u11 u12 u14 u15 w':=
 ⟨gk h.fa0 rfl,gk h.fa1 rfl,fun _=>rfl,gk h.fa3 rfl,gk h.fa4 rfl,gk h.fa5 rfl,gk h.fa6 rfl,gk h.fa7 rfl,gk h.fa8 rfl,gk h.fa9 rfl,gk h.fa10 rfl,gk h.fa11 rfl,gk h.fa14 rfl,gk h.fa15 rfl,h.wd⟩
theorem Gt.set3(h:Gt base V n X M X' M' A B Z k f D hd ev p bp br L u0 u1 u2 u3 u4 u5 u6 u7 u8 u9 u10 u11 u12 u14 u15 w'):Gt base V n X M X' M' A B Z k f D hd ev p bp br (fun j=>j == 3 || L j) u0 u1 u2 (.pointer (some ⟨V.b,V.o,none⟩)) u4 u5 u6 u7 u8 u9 u10 u11 u12 u14 u15 w':=
 ⟨gk h.fa0 rfl,gk h.fa1 rfl,gk h.fa2 rfl,fun _=>rfl,gk h.fa4 rfl,gk h.fa5 rfl,gk h.fa6 rfl,gk h.fa7 rfl,gk h.fa8 rfl,gk h.fa9 rfl,gk h.fa10 rfl,gk h.fa11 rfl,gk h.fa14 rfl,gk h.fa15 rfl,h.wd⟩
theorem Gt.set4(h:Gt base V n X M X' M' A B Z k f D hd ev p bp br L u0 u1 u2 u3 u4 u5 u6 u7 u8 u9 u10 u11 u12 u14 u15 w'):Gt base V n X M X' M' A B Z k f D hd ev p bp br (fun j=>j == 4 || L j) u0 u1 u2 u3 (.pointer (some ⟨V.b,V.o,none⟩)) u5 u6 u7 u8 u9 u10 u11 u12 u14 u15 w':=
 ⟨gk h.fa0 rfl,gk h.fa1 rfl,gk h.fa2 rfl,gk h.fa3 rfl,fun _=>rfl,gk h.fa5 rfl,gk h.fa6 rfl,gk h.fa7 rfl,gk h.fa8 rfl,gk h.fa9 rfl,gk h.fa10 rfl,gk h.fa11 rfl,gk h.fa14 rfl,gk h.fa15 rfl,h.wd⟩
theorem Gt.set5(h:Gt base V n X M X' M' A B Z k f D hd ev p bp br L u0 u1 u2 u3 u4 u5 u6 u7 u8 u9 u10 u11 u12 u14 u15 w'):Gt base V n X M X' M' A B Z k f D hd ev p bp br (fun j=>j == 5 || L j) u0 u1 u2 u3 u4 (.pointer (some ⟨V.b,V.o+4,none⟩)) u6 u7 u8 u9 u10 u11 u12 u14 u15 w':=
 ⟨gk h.fa0 rfl,gk h.fa1 rfl,gk h.fa2 rfl,gk h.fa3 rfl,gk h.fa4 rfl,fun _=>rfl,gk h.fa6 rfl,gk h.fa7 rfl,gk h.fa8 rfl,gk h.fa9 rfl,gk h.fa10 rfl,gk h.fa11 rfl,gk h.fa14 rfl,gk h.fa15 rfl,h.wd⟩
theorem Gt.set6(h:Gt base V n X M X' M' A B Z k f D hd ev p bp br L u0 u1 u2 u3 u4 u5 u6 u7 u8 u9 u10 u11 u12 u14 u15 w'):Gt base V n X M X' M' A B Z k f D hd ev p bp br (fun j=>j == 6 || L j) u0 u1 u2 u3 u4 u5 (.agg (Pt.pV p).toArray) u7 u8 u9 u10 u11 u12 u14 u15 w':=
 ⟨gk h.fa0 rfl,gk h.fa1 rfl,gk h.fa2 rfl,gk h.fa3 rfl,gk h.fa4 rfl,gk h.fa5 rfl,fun _=>rfl,gk h.fa7 rfl,gk h.fa8 rfl,gk h.fa9 rfl,gk h.fa10 rfl,gk h.fa11 rfl,gk h.fa14 rfl,gk h.fa15 rfl,h.wd⟩
theorem Gt.set7(h:Gt base V n X M X' M' A B Z k f D hd ev p bp br L u0 u1 u2 u3 u4 u5 u6 u7 u8 u9 u10 u11 u12 u14 u15 w')(hw:Wd base V n X M X' M' A B Z k f 51 (bl fun _=>0).toArray (bl D).toArray (true) (L 12) (L 13) u12 w''):Gt base V n X M X' M' A B Z k f D hd ev p bp br (fun j=>j == 7 || L j) u0 u1 u2 u3 u4 u5 u6 (.tuple #[.agg (bl D).toArray,.int .i64 hd,.int .i64 ev]) u8 u9 u10 u11 u12 u14 u15 w'':=
 ⟨gk h.fa0 rfl,gk h.fa1 rfl,gk h.fa2 rfl,gk h.fa3 rfl,gk h.fa4 rfl,gk h.fa5 rfl,gk h.fa6 rfl,fun _=>rfl,gk h.fa8 rfl,gk h.fa9 rfl,gk h.fa10 rfl,gk h.fa11 rfl,gk h.fa14 rfl,gk h.fa15 rfl,hw⟩
theorem Gt.set8(h:Gt base V n X M X' M' A B Z k f D hd ev p bp br L u0 u1 u2 u3 u4 u5 u6 u7 u8 u9 u10 u11 u12 u14 u15 w'):Gt base V n X M X' M' A B Z k f D hd ev p bp br (fun j=>j == 8 || L j) u0 u1 u2 u3 u4 u5 u6 u7 (.tuple #[.agg (bl D).toArray,.int .i64 hd,.int .i64 ev]) u9 u10 u11 u12 u14 u15 w':=
 ⟨gk h.fa0 rfl,gk h.fa1 rfl,gk h.fa2 rfl,gk h.fa3 rfl,gk h.fa4 rfl,gk h.fa5 rfl,gk h.fa6 rfl,gk h.fa7 rfl,fun _=>rfl,gk h.fa9 rfl,gk h.fa10 rfl,gk h.fa11 rfl,gk h.fa14 rfl,gk h.fa15 rfl,h.wd⟩
theorem Gt.set9(h:Gt base V n X M X' M' A B Z k f D hd ev p bp br L u0 u1 u2 u3 u4 u5 u6 u7 u8 u9 u10 u11 u12 u14 u15 w'):Gt base V n X M X' M' A B Z k f D hd ev p bp br (fun j=>j == 9 || L j) u0 u1 u2 u3 u4 u5 u6 u7 u8 (.agg (bl D).toArray) u10 u11 u12 u14 u15 w':=
 ⟨gk h.fa0 rfl,gk h.fa1 rfl,gk h.fa2 rfl,gk h.fa3 rfl,gk h.fa4 rfl,gk h.fa5 rfl,gk h.fa6 rfl,gk h.fa7 rfl,gk h.fa8 rfl,fun _=>rfl,gk h.fa10 rfl,gk h.fa11 rfl,gk h.fa14 rfl,gk h.fa15 rfl,h.wd⟩
theorem Gt.set10(h:Gt base V n X M X' M' A B Z k f D hd ev p bp br L u0 u1 u2 u3 u4 u5 u6 u7 u8 u9 u10 u11 u12 u14 u15 w'):Gt base V n X M X' M' A B Z k f D hd ev p bp br (fun j=>j == 10 || L j) u0 u1 u2 u3 u4 u5 u6 u7 u8 u9 (.int .i64 hd) u11 u12 u14 u15 w':=
 ⟨gk h.fa0 rfl,gk h.fa1 rfl,gk h.fa2 rfl,gk h.fa3 rfl,gk h.fa4 rfl,gk h.fa5 rfl,gk h.fa6 rfl,gk h.fa7 rfl,gk h.fa8 rfl,gk h.fa9 rfl,fun _=>rfl,gk h.fa11 rfl,gk h.fa14 rfl,gk h.fa15 rfl,h.wd⟩
theorem Gt.set11(h:Gt base V n X M X' M' A B Z k f D hd ev p bp br L u0 u1 u2 u3 u4 u5 u6 u7 u8 u9 u10 u11 u12 u14 u15 w'):Gt base V n X M X' M' A B Z k f D hd ev p bp br (fun j=>j == 11 || L j) u0 u1 u2 u3 u4 u5 u6 u7 u8 u9 u10 (.int .i64 ev) u12 u14 u15 w':=
 ⟨gk h.fa0 rfl,gk h.fa1 rfl,gk h.fa2 rfl,gk h.fa3 rfl,gk h.fa4 rfl,gk h.fa5 rfl,gk h.fa6 rfl,gk h.fa7 rfl,gk h.fa8 rfl,gk h.fa9 rfl,gk h.fa10 rfl,fun _=>rfl,gk h.fa14 rfl,gk h.fa15 rfl,h.wd⟩
theorem Gt.set12{u:Value}(h:Gt base V n X M X' M' A B Z k f D hd ev p bp br L u0 u1 u2 u3 u4 u5 u6 u7 u8 u9 u10 u11 u12 u14 u15 w')(hw:Wd base V n X M X' M' A B Z k f 51 (bl fun _=>0).toArray (bl D).toArray (L 7) (true) (L 13) u w''):Gt base V n X M X' M' A B Z k f D hd ev p bp br (fun j=>j == 12 || L j) u0 u1 u2 u3 u4 u5 u6 u7 u8 u9 u10 u11 u u14 u15 w'':=
 ⟨gk h.fa0 rfl,gk h.fa1 rfl,gk h.fa2 rfl,gk h.fa3 rfl,gk h.fa4 rfl,gk h.fa5 rfl,gk h.fa6 rfl,gk h.fa7 rfl,gk h.fa8 rfl,gk h.fa9 rfl,gk h.fa10 rfl,gk h.fa11 rfl,gk h.fa14 rfl,gk h.fa15 rfl,hw⟩
theorem Gt.set13(h:Gt base V n X M X' M' A B Z k f D hd ev p bp br L u0 u1 u2 u3 u4 u5 u6 u7 u8 u9 u10 u11 u12 u14 u15 w')(hw:Wd base V n X M X' M' A B Z k f 51 (bl fun _=>0).toArray (bl D).toArray (L 7) (L 12) (true) u12 w''):Gt base V n X M X' M' A B Z k f D hd ev p bp br (fun j=>j == 13 || L j) u0 u1 u2 u3 u4 u5 u6 u7 u8 u9 u10 u11 u12 u14 u15 w'':=
 ⟨gk h.fa0 rfl,gk h.fa1 rfl,gk h.fa2 rfl,gk h.fa3 rfl,gk h.fa4 rfl,gk h.fa5 rfl,gk h.fa6 rfl,gk h.fa7 rfl,gk h.fa8 rfl,gk h.fa9 rfl,gk h.fa10 rfl,gk h.fa11 rfl,gk h.fa14 rfl,gk h.fa15 rfl,hw⟩
theorem Gt.set14(h:Gt base V n X M X' M' A B Z k f D hd ev p bp br L u0 u1 u2 u3 u4 u5 u6 u7 u8 u9 u10 u11 u12 u14 u15 w'):Gt base V n X M X' M' A B Z k f D hd ev p bp br (fun j=>j == 14 || L j) u0 u1 u2 u3 u4 u5 u6 u7 u8 u9 u10 u11 u12 (.int .i64 hd) u15 w':=
 ⟨gk h.fa0 rfl,gk h.fa1 rfl,gk h.fa2 rfl,gk h.fa3 rfl,gk h.fa4 rfl,gk h.fa5 rfl,gk h.fa6 rfl,gk h.fa7 rfl,gk h.fa8 rfl,gk h.fa9 rfl,gk h.fa10 rfl,gk h.fa11 rfl,fun _=>rfl,gk h.fa15 rfl,h.wd⟩
theorem Gt.set15(h:Gt base V n X M X' M' A B Z k f D hd ev p bp br L u0 u1 u2 u3 u4 u5 u6 u7 u8 u9 u10 u11 u12 u14 u15 w'):Gt base V n X M X' M' A B Z k f D hd ev p bp br (fun j=>j == 15 || L j) u0 u1 u2 u3 u4 u5 u6 u7 u8 u9 u10 u11 u12 u14 (.int .i64 ev) w':=
 ⟨gk h.fa0 rfl,gk h.fa1 rfl,gk h.fa2 rfl,gk h.fa3 rfl,gk h.fa4 rfl,gk h.fa5 rfl,gk h.fa6 rfl,gk h.fa7 rfl,gk h.fa8 rfl,gk h.fa9 rfl,gk h.fa10 rfl,gk h.fa11 rfl,gk h.fa14 rfl,fun _=>rfl,h.wd⟩
end
def GtInv(x2 x5 x9 x10 x11 x12 x13 x26 x27:Value)(base:World)(V:Pl)(n:Nat)(X:Dst)(M:Tab)(X':Dst)(M':Tab)(A B Z:Int)(k:Nat)(f D:Nat→Int)(hd ev:Int)(p:Pt.Pn)(bp br:Nat)(L:Nat→Bool)(a':Act)(w':World):Prop:=
 ∃u0 u1 u2 u3 u4 u5 u6 u7 u8 u9 u10 u11 u12 u14 u15,a'={ tmps:=#[.pointer (some ⟨V.b,V.o,none⟩),.agg (Pt.pV p).toArray,x2,.pointer (some ⟨bp,0,none⟩),.pointer (some ⟨br,0,none⟩),x5,u12,u14,u15,x9,x10,x11,x12,x13,u8,u0,u1,u2,u3,u4,u5,u6,u7,u9,u10,u11,x26,x27],defers:=[] }∧Gt base V n X M X' M' A B Z k f D hd ev p bp br L u0 u1 u2 u3 u4 u5 u6 u7 u8 u9 u10 u11 u12 u14 u15 w'
theorem get_ok{w:World}{V:Pl}{n k:Nat}{X:Dst}{M:Tab}{A B Z:Int}{f:Nat→Int}(h:HasVol w V n X M A B Z k f)(hm:TabOk M)(hB:Sp.i64 B)(hkp:Rm.Kp w)(hok:Ok 23 X)(hk:0 < k)(p:Pt.Pn)(hpA:Sp.i64 p.A)(hpB:Sp.i64 p.B)(hyes:mn n X M A B Z k f p=true)(hyA:byt (tV n X M p.A))(hyB:byt (tV n X M p.B))
  {D:Nat→Int} {he e:Int} {X':Dst} {M':Tab} (hR:gRes n X M p=⟨D,he,e,X',M'⟩) (hRT:∃s,Rm.rightB s M'.gen M'.k M'.F M'.T=true) :
  Calls Tryz.prog 17 #[.pointer (some ⟨V.b,V.o,none⟩),.agg (Pt.pV p).toArray] w fun e_ w'=>e_=.returned (.tuple #[.agg (bl D).toArray,.int .i64 e])∧Tv w V n X' M' A B Z k f w':=by
 obtain⟨W,hW,hG0⟩:=Di.box_get w p
 have HMI:=Lib.hid (mine_v (h.below hG0.be) hm hB p hpA hpB)
 rw[hyes] at HMI
 have HG0:=Lib.hid hG0
 have q0:=Pt.rP hG0.p
 have HGE:=Lib.hid (fun w' (hv:HasVol w' V n X M A B Z k f) (hkp:Rm.Kp w')=>get_v hv hkp hok hm p hyA hyB)
 rw[hR] at HGE
 have HV0:=Lib.hid h
 have HKP:=Lib.hid hkp
 have HRT:=Lib.hid hRT
 have hvl:=h.lt
 have hv0n:=hasVol_ne h
 have hW2:W.heap.size=w.heap.size+2:=by rw[hW]; simp
 clear h hm hB hG0 hyes hyA hyB hR hRT hkp hok
 go_enter Tryz.func17,Tryz.ntmps17
 rw[hW] at q0
 go_wp2_with (refine @wG _ _ _ _ _ _ _ (by kernel_rfl) 58 (.tmp 3) rfl w.heap.size 0 rfl (Pt.pV p) _ q0 Pt.undP rfl (Pt.sizeP p) ?_; simp only[Act.put,aA])
 rw[←hW]
 clear hW q0
 refine HMI.out.mono ?_
 rintro _ w1 ⟨rfl,hb1⟩
 have hg1:=HG0.out.below hb1
 have hz1:=hg1.f
 have hp1:=hg1.p
 have hbe:=hg1.be
 have hs1:=hb1.size
 have HF:Hid (Tv w V n X M A B Z k f w1):=Lib.hid (Tv.of HV0.out hbe)
 have HO:Hid (Off w1 V (w.heap.size+1)):=Lib.hid ((Off.new HV0.out hk (by omega)).below hvl hbe)
 have hK1:=HKP.out.below hbe
 have HZ1:=Lib.hid hz1
 have HPB:=Lib.hid (fun w' (hg:w1.grownBy w' (some V.b))=>Pt.rP ((hg.block w.heap.size (by omega) (by simp; omega)).trans hp1))
 have HKK:=Lib.hid (fun w' (hg:w1.grownBy w' (some V.b))=>hK1.grown hg hv0n)
 have HSTART:=Lib.hid (Wd.start (X':=X') (M':=M') (T:=51) (old:=(bl fun _=>0).toArray) (new:=(bl D).toArray) (u:=undef) HF.out.v)
 clear HMI HG0 hg1 HV0 HKP hz1 hp1 hbe hb1 hK1
 dsimp only
 go_wp2_with fail
 refine QuietTail2.regionInv (n:=16) (Inv:=GtInv _ _ _ _ _ _ _ _ _ w1 V n X M X' M' A B Z k f D he e p w.heap.size (w.heap.size+1)) (by kernel_rfl) (by decide) (by kernel_rfl) ⟨_,_,_,_,_,_,_,_,_,_,_,_,_,_,_,rfl,⟨by simp,by simp,by simp,by simp,by simp,by simp,by simp,by simp,by simp,by simp,by simp,by simp,by simp,by simp,?_⟩⟩ ?step ?fin
 exact HSTART.out
 case step=>
  rintro i o hi ho L a' w' ⟨u0,u1,u2,u3,u4,u5,u6,u7,u8,u9,u10,u11,u12,u14,u15,rfl,TT⟩ hL hpre
  match i,hi with
  | 0,_=>
   simp at ho
   subst ho
   go_simp
   exact⟨_,u1,u2,u3,u4,u5,u6,u7,u8,u9,u10,u11,u12,u14,u15,rfl,TT.set0⟩
  | 1,_=>
   simp at ho
   subst ho
   obtain rfl:=TT.fa0 (hpre 0 (by kernel_rfl))
   go_simp
   exact⟨_,_,u2,u3,u4,u5,u6,u7,u8,u9,u10,u11,u12,u14,u15,rfl,TT.set1⟩
  | 2,_=>
   simp at ho
   subst ho
   obtain rfl:=TT.fa1 (hpre 1 (by kernel_rfl))
   go_simp
   exact⟨u0,_,_,u3,u4,u5,u6,u7,u8,u9,u10,u11,u12,u14,u15,rfl,TT.set2⟩
  | 3,_=>
   simp at ho
   subst ho
   go_simp
   exact⟨u0,u1,u2,_,u4,u5,u6,u7,u8,u9,u10,u11,u12,u14,u15,rfl,TT.set3⟩
  | 4,_=>
   simp at ho
   subst ho
   obtain rfl:=TT.fa3 (hpre 3 (by kernel_rfl))
   go_simp
   exact⟨u0,u1,u2,_,_,u5,u6,u7,u8,u9,u10,u11,u12,u14,u15,rfl,TT.set4⟩
  | 5,_=>
   simp at ho
   subst ho
   obtain rfl:=TT.fa4 (hpre 4 (by kernel_rfl))
   go_simp
   exact⟨u0,u1,u2,u3,_,_,u6,u7,u8,u9,u10,u11,u12,u14,u15,rfl,TT.set5⟩
  | 6,_=>
   simp at ho
   subst ho
   refine wp_load_mid 58 (.tmp 3) rfl w.heap.size 0 rfl (Pt.pV p) _ (HPB.out w' TT.wd.g) Pt.undP rfl (Pt.sizeP p) ?_
   simp only[Act.put,aA]
   exact⟨u0,u1,u2,u3,u4,u5,_,u7,u8,u9,u10,u11,u12,u14,u15,rfl,TT.set6⟩
  | 7,_=>
   simp at ho
   subst ho
   obtain rfl:=TT.fa2 (hpre 2 (by kernel_rfl))
   obtain rfl:=TT.fa5 (hpre 5 (by kernel_rfl))
   obtain rfl:=TT.fa6 (hpre 6 (by kernel_rfl))
   go_simp
   refine(HGE.out w' (TT.wd.p0 hL) (HKK.out w' TT.wd.g)).mono ?_
   rintro _ w'' ⟨rfl,hT⟩
   exact⟨u0,u1,_,u3,u4,_,_,_,u8,u9,u10,u11,u12,u14,u15,rfl,TT.set7 (TT.wd.call hL hT)⟩
  | 8,_=>
   simp at ho
   subst ho
   obtain rfl:=TT.fa7 (hpre 7 (by kernel_rfl))
   go_simp
   exact⟨u0,u1,u2,u3,u4,u5,u6,_,_,u9,u10,u11,u12,u14,u15,rfl,TT.set8⟩
  | 9,_=>
   simp at ho
   subst ho
   obtain rfl:=TT.fa8 (hpre 8 (by kernel_rfl))
   go_simp
   exact⟨u0,u1,u2,u3,u4,u5,u6,u7,_,_,u10,u11,u12,u14,u15,rfl,TT.set9⟩
  | 10,_=>
   simp at ho
   subst ho
   obtain rfl:=TT.fa8 (hpre 8 (by kernel_rfl))
   go_simp
   exact⟨u0,u1,u2,u3,u4,u5,u6,u7,_,u9,_,u11,u12,u14,u15,rfl,TT.set10⟩
  | 11,_=>
   simp at ho
   subst ho
   obtain rfl:=TT.fa8 (hpre 8 (by kernel_rfl))
   go_simp
   exact⟨u0,u1,u2,u3,u4,u5,u6,u7,_,u9,u10,_,u12,u14,u15,rfl,TT.set11⟩
  | 12,_=>
   simp at ho
   subst ho
   go_simp
   exact⟨u0,u1,u2,u3,u4,u5,u6,u7,u8,u9,u10,u11,_,u14,u15,rfl,TT.set12 (TT.wd.alloc hL hk)⟩
  | 13,_=>
   simp at ho
   subst ho
   have hw:=TT.wd
   obtain⟨bk,e1,h1,h2,h3⟩:=hw.al (hpre 12 (by kernel_rfl))
   obtain rfl:=e1
   obtain rfl:=TT.fa9 (hpre 9 (by kernel_rfl))
   rw[hpre 7 (by kernel_rfl),hpre 12 (by kernel_rfl),hL] at hw
   refine wp_store_row 51 (.tmp 6) (.tmp 23) rfl bk (bl D).toArray rfl rfl 51 _ (hw.row rfl rfl) (size_bl' _) (by simp[bL]) (bl_all _) ?_
   simp only[Act.put]
   refine⟨u0,u1,u2,u3,u4,u5,u6,u7,u8,_,u10,u11,_,u14,u15,rfl,TT.set13 ?_⟩
   rw[hpre 7 (by kernel_rfl),hpre 12 (by kernel_rfl)]
   exact hw.store hk (by decide) (by decide) (.inr ⟨HRT.out,fun i z=>bl_small _ i z⟩)
  | 14,_=>
   simp at ho
   subst ho
   obtain rfl:=TT.fa10 (hpre 10 (by kernel_rfl))
   go_simp
   exact⟨u0,u1,u2,u3,u4,u5,u6,u7,u8,u9,_,u11,u12,_,u15,rfl,TT.set14⟩
  | 15,_=>
   simp at ho
   subst ho
   obtain rfl:=TT.fa11 (hpre 11 (by kernel_rfl))
   go_simp
   exact⟨u0,u1,u2,u3,u4,u5,u6,u7,u8,u9,u10,_,u12,u14,_,rfl,TT.set15⟩
  | i+16,h=>omega
 case fin=>
  rintro L a' w' hall ⟨u0,u1,u2,u3,u4,u5,u6,u7,u8,u9,u10,u11,u12,u14,u15,rfl,TT⟩
  have HWD:=Lib.hid (by have:=TT.wd; rwa [hall 7 (by omega),hall 12 (by omega),hall 13 (by omega)] at this:Wd w1 V n X M X' M' A B Z k f 51 (bl fun _=>0).toArray (bl D).toArray true true true u12 w')
  obtain⟨bk,e1,h1,h2,h3⟩:=HWD.out.al rfl
  obtain rfl:=e1
  obtain rfl:=TT.fa15 (hall 15 (by omega))
  have hT:=(⟨HWD.out.p1 rfl,HWD.out.g,HWD.out.l⟩:Tv w1 V n X' M' A B Z k f w')
  have HFF:=Lib.hid (HF.out.trans hT)
  have hz5:=(HWD.out.g.block (w.heap.size+1) (by omega) (by simp; omega)).trans HZ1.out
  have HO5:=Lib.hid (HO.out.loc (by omega) hT.l)
  have q5:=row_all h3
  clear TT h1 h2 h3 hT
  refine wpList_nil ?_
  go_wp2_with (first
   | (refine @wG _ _ _ _ _ _ _ (by kernel_rfl) 51 (.tmp 6) rfl bk 0 rfl (bl D) _ q5 undB rfl (sB D) ?_; simp only[Act.put,aA])
   | (refine wpList_store_row rfl 51 (.tmp 4) (.tmp 26) rfl (w.heap.size+1) (bl D).toArray rfl rfl 51 _ hz5 (size_bl' _) (by simp[bL]) (bl_all _) ?_; simp only[Act.put]))
  refine bodyPost_ret (results_bl rfl rfl rfl (setRow_heap _ _ _ _ _ _ hz5)) rfl ?_
  obtain⟨hf1,hf2⟩:=hasVol_only HFF.out.v hk HO5.out hz5 (by decide) (by decide) (.inr ⟨HRT.out,fun i z=>bl_small _ i z⟩) (gR (bl D).toArray)
  exact⟨rfl,hf1,grown_only HFF.out.g (Nat.le_succ _) (gR _),HFF.out.l.trans (Loc.same (World.cell?_of_block (setRow_other _ _ _ _ (show V.b≠w.heap.size+1 by omega)))) HFF.out.g.size⟩
end Vl
end Go.Proofs.YtknjmamhijlnaaaGreatDoor
