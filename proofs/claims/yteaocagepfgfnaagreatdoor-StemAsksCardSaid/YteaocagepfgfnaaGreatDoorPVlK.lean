import Derived.Test.YteaocagepfgfnaaGreatDoorPVlI
import Derived.Test.YteaocagepfgfnaaGreatDoorPSpTk
import Derived.Test.YteaocagepfgfnaaGreatDoorPAl
set_option maxRecDepth 100000
set_option maxHeartbeats 8000000
namespace Go.Proofs.YteaocagepfgfnaaGreatDoor
namespace Vl
open Go.RowKit Dk Gm Eqb Rm Vm Di
attribute [local go_sem] zv29
attribute [local go_sem] Pt.zvP
attribute [local go_sem] zc29
attribute [local irreducible] wpQuiet
theorem add_hole{w:World}{V:Pl}{n k:Nat}{X:Dst}{M:Tab}{A B Z:Int}{f:Nat→Int}(h:HasVol w V n X M A B Z k f)(hm:TabOk M)(hB:Sp.i64 B)(hkp:Rm.Kp w)(D:Nat→Int)(c:Int)(hD:byt D)(hr:rv n X M A B Z k f=true)(hc:alB c=true)(hz:Pt.fitsB Pt.hole D=true) :
  Calls Tryz.prog 84 #[.pointer (some ⟨V.b,V.o,none⟩),.agg (bl D).toArray,.int .i64 c] w fun e w'=>e=.returned (.tuple #[.agg (Pt.pV Pt.hole).toArray,.int .i64 0])∧Below w.heap.size w w':=by
 obtain⟨W,hW,hB0,hs0,hv0,hz0⟩:=Di.box_put w D
 have HR:=Lib.hid (right_v (h.below hB0) hm hB)
 have HA:=Lib.hid (allowed_any c)
 rw[hc] at HA
 have HFT:=Lib.hid (fun w' (hb:Below W.heap.size W w')=>Pt.fits_any Pt.hole D w' hD ((hkp.below hB0).below hb))
 rw[hz] at HFT
 have HVB:=Lib.hid (fun w' (hb:Below W.heap.size W w')=>row_all ((hb.block w.heap.size (by omega)).trans hv0))
 have HZ:=Lib.hid (fun w' (hb:Below W.heap.size W w')=>(hb.block (w.heap.size+1) (by omega)).trans hz0)
 clear h hm hB hv0 hz0 hkp hD hz hc
 rw[hr] at HR
 clear hr
 go_enter Tryz.func84,Tryz.ntmps84
 go_wp2_with fail
 rw[Pt.zrow,←hW]
 clear hW
 refine HR.out.mono ?_
 rintro _ w1 ⟨rfl,hb1⟩
 clear HR
 dsimp only
 go_wp2_with fail
 refine(HA.out w1).mono ?_
 rintro _ _ ⟨rfl,rfl⟩
 clear HA
 dsimp only
 go_wp2_with fail
 replace HVB:=Lib.hid (fun w' (hb:Below w1.heap.size w1 w')=>HVB.out w' (hb1.trans (hb.mono hb1.size)))
 replace HFT:=Lib.hid (fun w' (hb:Below w1.heap.size w1 w')=>HFT.out w' (hb1.trans (hb.mono hb1.size)))
 refine wp_region_quiet (C:=fun w'=>Below w1.heap.size w1 w') (by kernel_rfl) (by kernel_rfl) ⟨rfl,rfl,rfl,Nat.le_refl _,fun _ _=>rfl⟩ ?_
 refine q_call 88 _ (.agg (Pt.pV Pt.hole).toArray) rfl (fun w'=>by go_simp) (fun w' hw'=>(Pt.hole_any w').mono fun e w'' ⟨he,hb⟩=>⟨he,hw'.trans (hb.mono hw'.size)⟩) ?_
 simp only[Act.put,aA]
 refine q_loadB 47 (.tmp 4) rfl rfl w.heap.size 0 rfl (bl D) _ (fun w' hw'=>HVB.out w' hw') undB rfl (sB D) ?_
 simp only[Act.put,aA]
 refine q_call 107 _ (.bool true) rfl (fun w'=>by go_simp) (fun w' hw'=>(HFT.out w' hw').mono fun e w'' ⟨he,hb⟩=>⟨he,hw'.trans (hb.mono hw'.size)⟩) ?_
 simp only[Act.put,aA]
 refine wpQuiet_nil ?_
 intro w2 hw2
 clear HVB HFT
 have hB2:=hb1.trans (hw2.mono hb1.size)
 have hz2:=HZ.out w2 hB2
 go_wp2_with fail
 refine(Pt.hole_any w2).mono ?_
 rintro _ w3 ⟨rfl,hb3⟩
 have hB3:=hB0.trans ((hB2.trans (hb3.mono hB2.size)).mono hB0.size)
 have hz3:=(hb3.block (w.heap.size+1) (by have:=hB2.size; omega)).trans hz2
 clear hz2 HZ
 dsimp only
 go_wp2_with (first
   | (refine wpList_buildTo rfl 24 #[] rfl _ rfl (Pt.pV Pt.pz).toArray Pt.builtZ ?_; simp only[Act.put,aA])
   | (refine @wpList_store_row _ _ _ _ _ _ _ rfl 24 (.tmp 6) (.tmp 25) rfl (w.heap.size+1) (Pt.pV Pt.hole).toArray rfl rfl 24 _ hz3 (Pt.sizeP' _) rfl (Pt.pV_all _) ?_; simp only[Act.put]))
 refine bodyPost_ret (Pt.rTp rfl rfl rfl (setRow_heap _ _ _ _ _ _ hz3)) rfl ?_
 exact⟨rfl,below_only hB3 (Nat.le_succ _) (gR _)⟩
theorem add_full{w:World}{V:Pl}{n k:Nat}{X:Dst}{M:Tab}{A B Z:Int}{f:Nat→Int}(h:HasVol w V n X M A B Z k f)(hm:TabOk M)(hB:Sp.i64 B)(hkp:Rm.Kp w)(D:Nat→Int)(c:Int)(hD:byt D)(hr:rv n X M A B Z k f=true)(hc:alB c=true)(hk:0 < k)(hz:Pt.fitsB Pt.hole D=false)(hM:M.k=0)(he:Sp.tkE A B Z k f c≠0) :
  Calls Tryz.prog 84 #[.pointer (some ⟨V.b,V.o,none⟩),.agg (bl D).toArray,.int .i64 c] w fun e w'=>e=.returned (.tuple #[.agg (Pt.pV Pt.pz).toArray,.int .i64 (Sp.tkE A B Z k f c)])∧Tv w V n X M A B Z k (Sp.tkF A B Z k f c) w':=by
 obtain⟨W,hW,hB0,hs0,hv0,hz0⟩:=Di.box_put w D
 have HR:=Lib.hid (right_v (h.below hB0) hm hB)
 have HA:=Lib.hid (allowed_any c)
 rw[hc] at HA
 have HFT:=Lib.hid (fun w' (hb:Below W.heap.size W w')=>Pt.fits_any Pt.hole D w' hD ((hkp.below hB0).below hb))
 rw[hz] at HFT
 have HVB:=Lib.hid (fun w' (hb:Below W.heap.size W w')=>row_all ((hb.block w.heap.size (by omega)).trans hv0))
 have HZ:=Lib.hid (fun w' (hb:Below W.heap.size W w')=>(hb.block (w.heap.size+1) (by omega)).trans hz0)
 have HVV:=Lib.hid (fun w' (hb:Below W.heap.size W w')=>(h.below hB0).below hb)
 have HTA:=Lib.hid (fun w' (hv:HasVol w' V n X M A B Z k f)=>take_v hv hk hB c)
 have HV0:=Lib.hid h
 have hvl:=h.lt
 have he':(Sp.tkE A B Z k f c != 0)=true:=by simpa using he
 clear he
 generalize Sp.tkE A B Z k f c=E at HTA he' ⊢
 clear h hm hB hv0 hz0 hkp hD hz hc
 rw[hr] at HR
 clear hr
 go_enter Tryz.func84,Tryz.ntmps84
 go_wp2_with fail
 rw[Pt.zrow,←hW]
 clear hW
 refine HR.out.mono ?_
 rintro _ w1 ⟨rfl,hb1⟩
 clear HR
 dsimp only
 go_wp2_with fail
 refine(HA.out w1).mono ?_
 rintro _ _ ⟨rfl,rfl⟩
 clear HA
 dsimp only
 go_wp2_with fail
 replace HVB:=Lib.hid (fun w' (hb:Below w1.heap.size w1 w')=>HVB.out w' (hb1.trans (hb.mono hb1.size)))
 replace HFT:=Lib.hid (fun w' (hb:Below w1.heap.size w1 w')=>HFT.out w' (hb1.trans (hb.mono hb1.size)))
 refine wp_region_quiet (C:=fun w'=>Below w1.heap.size w1 w') (by kernel_rfl) (by kernel_rfl) ⟨rfl,rfl,rfl,Nat.le_refl _,fun _ _=>rfl⟩ ?_
 refine q_call 88 _ (.agg (Pt.pV Pt.hole).toArray) rfl (fun w'=>by go_simp) (fun w' hw'=>(Pt.hole_any w').mono fun e w'' ⟨he,hb⟩=>⟨he,hw'.trans (hb.mono hw'.size)⟩) ?_
 simp only[Act.put,aA]
 refine q_loadB 47 (.tmp 4) rfl rfl w.heap.size 0 rfl (bl D) _ (fun w' hw'=>HVB.out w' hw') undB rfl (sB D) ?_
 simp only[Act.put,aA]
 refine q_call 107 _ (.bool false) rfl (fun w'=>by go_simp) (fun w' hw'=>(HFT.out w' hw').mono fun e w'' ⟨he,hb⟩=>⟨he,hw'.trans (hb.mono hw'.size)⟩) ?_
 simp only[Act.put,aA]
 refine wpQuiet_nil ?_
 intro w2 hw2
 clear HVB HFT
 have hB2:=hb1.trans (hw2.mono hb1.size)
 have hV2:=HVV.out w2 hB2
 obtain⟨sa,sc,ca,cc,pa,cap,ao,kc,hx⟩:=HasVol.open' hV2
 have c6:=hx.c6
 have c7:=hx.c7
 have c8:=hx.c8
 have c9:=hx.c9
 have hbs:Below w2.heap.size w2 (w2.alloc (.cells #[.int .i64 A,.int .i64 B,.int .i64 Z,.slice ao k kc] 41)):=(Below.refl _ _).alloc (Nat.le_refl _) _
 have HTK:=Lib.hid (HTA.out _ (hV2.below hbs))
 have hB3:=hB2.trans (hbs.mono hB2.size)
 clear hx hV2 hw2 HVV HTA
 go_wp2_with fail
 refine HTK.out.mono ?_
 rintro _ w4 ⟨rfl,hT4⟩
 clear HTK c6 c7 c8 c9
 generalize w2.alloc (.cells #[.int .i64 A,.int .i64 B,.int .i64 Z,.slice ao k kc] 41)=w3 at *
 have HT4:=Lib.hid hT4
 clear hbs hT4
 dsimp only
 generalize Sp.tkp A B Z k f c=pa1 at *
 generalize Sp.tkq A B Z k f c=pc1 at *
 have hz3:=HZ.out w3 hB3
 have hbe:Below w.heap.size w w3:=hB0.trans (hB3.mono hB0.size)
 have hz4:=(HT4.out.g.block (w.heap.size+1) (by have:=hB3.size; omega) (by simp; omega)).trans hz3
 have HFW:Hid (Tv W V n X M A B Z k (Sp.tkF A B Z k f c) w4):=Lib.hid ((Tv.of (HV0.out.below hB0) hB3).trans HT4.out)
 have HF:Hid (Tv w V n X M A B Z k (Sp.tkF A B Z k f c) w4):=Lib.hid ((Tv.of HV0.out hB0).trans HFW.out)
 have HO:Hid (Off w4 V (w.heap.size+1)):=Lib.hid (((Off.new HV0.out hk (by omega)).below hvl hB0).loc (by omega) HFW.out.l)
 clear HFW
 clear hz3 hbe HV0 HT4 HZ
 go_wp2_with (first
   | (refine wpList_buildTo rfl 24 #[] rfl _ rfl (Pt.pV Pt.pz).toArray Pt.builtZ ?_; simp only[Act.put,aA])
   | (refine @wpList_store_row _ _ _ _ _ _ _ rfl 24 (.tmp 6) (.tmp 41) rfl (w.heap.size+1) (Pt.pV Pt.pz).toArray rfl rfl 24 _ hz4 (Pt.sizeP' _) rfl (Pt.pV_all _) ?_; simp only[Act.put]))
 refine bodyPost_ret (Pt.rTp rfl rfl rfl (setRow_heap _ _ _ _ _ _ hz4)) rfl ?_
 obtain⟨hf1,hf2⟩:=hasVol_only HF.out.v hk HO.out hz4 (by decide) (by decide) (.inl hM) (gR (Pt.pV Pt.pz).toArray)
 exact⟨rfl,hf1,grown_only HF.out.g (Nat.le_succ _) (gR _),HF.out.l.trans (Loc.same (World.cell?_of_block (setRow_other _ _ _ _ (show V.b≠w.heap.size+1 by omega)))) HF.out.g.size⟩
structure Ad(base:World)(V:Pl)(n:Nat)(X:Dst)(M:Tab)(X':Dst)(A B Z:Int)(k:Nat)(F D q:Nat→Int)(a1 b1 c:Int)(bv br:Nat)(L:Nat→Bool)(u0 u1 u2 u3 u4 u5 u6 u7 u8 u9 u10 u11 u12 u13 u15:Value)(w':World):Prop where
 fa0:L 0=true→u0=.pointer (some ⟨V.b,V.o,none⟩)
 fa1:L 1=true→u1=.pointer (some ⟨V.b,V.o,none⟩)
 fa2:L 2=true→u2=.pointer (some ⟨V.b,V.o,none⟩)
 fa3:L 3=true→u3=.pointer (some ⟨V.b,V.o,none⟩)
 fa4:L 4=true→u4=.pointer (some ⟨V.b,V.o,none⟩)
 fa5:L 5=true→u5=.pointer (some ⟨V.b,V.o+4,none⟩)
 fa6:L 6=true→u6=.agg (bl D).toArray
 fa7:L 7=true→u7=.int .i64 a1
 fa8:L 8=true→u8=.int .i64 b1
 fa9:L 9=true→u9=.tuple #[.agg (Pt.pV ⟨a1,b1,q⟩).toArray,.int .i64 0]
 fa10:L 10=true→u10=.tuple #[.agg (Pt.pV ⟨a1,b1,q⟩).toArray,.int .i64 0]
 fa11:L 11=true→u11=.agg (Pt.pV ⟨a1,b1,q⟩).toArray
 fa12:L 12=true→u12=.int .i64 0
 fa15:L 15=true→u15=.int .i64 0
 wd:Wd base V n X M X' M A B Z k F 24 (Pt.pV Pt.pz).toArray (Pt.pV ⟨a1,b1,q⟩).toArray (L 9) (L 13) (L 14) u13 w'
theorem aK{L:Nat→Bool}{i k:Nat}{Q:Prop}(h:L k=true→Q)(h1:(k == i)=false):(k == i || L k)=true→Q:=by
 rw[h1,Bool.false_or]
 exact h
section
variable {base:World}{V:Pl}{n:Nat}{X:Dst}{M:Tab}{X':Dst}{A B Z:Int}{k:Nat}{F D q:Nat→Int}{a1 b1 c:Int}{bv br:Nat}{L:Nat→Bool}{u0 u1 u2 u3 u4 u5 u6 u7 u8 u9 u10 u11 u12 u13 u15:Value}{w' w'':World}
theorem Ad.set0(h:Ad base V n X M X' A B Z k F D q a1 b1 c bv br L u0 u1 u2 u3 u4 u5 u6 u7 u8 u9 u10 u11 u12 u13 u15 w'):Ad base V n X M X' A B Z k F D q a1 b1 c bv br (fun j=>j == 0 || L j) (.pointer (some ⟨V.b,V.o,none⟩)) u1 u2 u3 u4 u5 u6 u7 u8 u9 u10 u11 u12 u13 u15 w':=
 ⟨fun _=>rfl,aK h.fa1 rfl,aK h.fa2 rfl,aK h.fa3 rfl,aK h.fa4 rfl,aK h.fa5 rfl,aK h.fa6 rfl,aK h.fa7 rfl,aK h.fa8 rfl,aK h.fa9 rfl,aK h.fa10 rfl,aK h.fa11 rfl,aK h.fa12 rfl,aK h.fa15 rfl,h.wd⟩
theorem Ad.set1(h:Ad base V n X M X' A B Z k F D q a1 b1 c bv br L u0 u1 u2 u3 u4 u5 u6 u7 u8 u9 u10 u11 u12 u13 u15 w'):Ad base V n X M X' A B Z k F D q a1 b1 c bv br (fun j=>j == 1 || L j) u0 (.pointer (some ⟨V.b,V.o,none⟩)) u2 u3 u4 u5 u6 u7 u8 u9 u10 u11 u12 u13 u15 w':=
 ⟨aK h.fa0 rfl,fun _=>rfl,aK h.fa2 rfl,aK h.fa3 rfl,aK h.fa4 rfl,aK h.fa5 rfl,aK h.fa6 rfl,aK h.fa7 rfl,aK h.fa8 rfl,aK h.fa9 rfl,aK h.fa10 rfl,aK h.fa11 rfl,aK h.fa12 rfl,aK h.fa15 rfl,h.wd⟩
theorem Ad.set2(h:Ad base V n X M X' A B Z k F D q a1 b1 c bv br L u0 u1 u2 u3 u4 u5 u6 u7 u8 u9 u10 u11 u12 u13 u15 w'):Ad base V n X M X' A B Z k F D q a1 b1 c bv br (fun j=>j == 2 || L j) u0 u1 (.pointer (some ⟨V.b,V.o,none⟩)) u3 u4 u5 u6 u7 u8 u9 u10 u11 u12 u13 u15 w':=
 ⟨aK h.fa0 rfl,aK h.fa1 rfl,fun _=>rfl,aK h.fa3 rfl,aK h.fa4 rfl,aK h.fa5 rfl,aK h.fa6 rfl,aK h.fa7 rfl,aK h.fa8 rfl,aK h.fa9 rfl,aK h.fa10 rfl,aK h.fa11 rfl,aK h.fa12 rfl,aK h.fa15 rfl,h.wd⟩
theorem Ad.set3(h:Ad base V n X M X' A B Z k F D q a1 b1 c bv br L u0 u1 u2 u3 u4 u5 u6 u7 u8 u9 u10 u11 u12 u13 u15 w'):Ad base V n X M X' A B Z k F D q a1 b1 c bv br (fun j=>j == 3 || L j) u0 u1 u2 (.pointer (some ⟨V.b,V.o,none⟩)) u4 u5 u6 u7 u8 u9 u10 u11 u12 u13 u15 w':=
 ⟨aK h.fa0 rfl,aK h.fa1 rfl,aK h.fa2 rfl,fun _=>rfl,aK h.fa4 rfl,aK h.fa5 rfl,aK h.fa6 rfl,aK h.fa7 rfl,aK h.fa8 rfl,aK h.fa9 rfl,aK h.fa10 rfl,aK h.fa11 rfl,aK h.fa12 rfl,aK h.fa15 rfl,h.wd⟩
theorem Ad.set4(h:Ad base V n X M X' A B Z k F D q a1 b1 c bv br L u0 u1 u2 u3 u4 u5 u6 u7 u8 u9 u10 u11 u12 u13 u15 w'):Ad base V n X M X' A B Z k F D q a1 b1 c bv br (fun j=>j == 4 || L j) u0 u1 u2 u3 (.pointer (some ⟨V.b,V.o,none⟩)) u5 u6 u7 u8 u9 u10 u11 u12 u13 u15 w':=
 ⟨aK h.fa0 rfl,aK h.fa1 rfl,aK h.fa2 rfl,aK h.fa3 rfl,fun _=>rfl,aK h.fa5 rfl,aK h.fa6 rfl,aK h.fa7 rfl,aK h.fa8 rfl,aK h.fa9 rfl,aK h.fa10 rfl,aK h.fa11 rfl,aK h.fa12 rfl,aK h.fa15 rfl,h.wd⟩
theorem Ad.set5(h:Ad base V n X M X' A B Z k F D q a1 b1 c bv br L u0 u1 u2 u3 u4 u5 u6 u7 u8 u9 u10 u11 u12 u13 u15 w'):Ad base V n X M X' A B Z k F D q a1 b1 c bv br (fun j=>j == 5 || L j) u0 u1 u2 u3 u4 (.pointer (some ⟨V.b,V.o+4,none⟩)) u6 u7 u8 u9 u10 u11 u12 u13 u15 w':=
 ⟨aK h.fa0 rfl,aK h.fa1 rfl,aK h.fa2 rfl,aK h.fa3 rfl,aK h.fa4 rfl,fun _=>rfl,aK h.fa6 rfl,aK h.fa7 rfl,aK h.fa8 rfl,aK h.fa9 rfl,aK h.fa10 rfl,aK h.fa11 rfl,aK h.fa12 rfl,aK h.fa15 rfl,h.wd⟩
theorem Ad.set6(h:Ad base V n X M X' A B Z k F D q a1 b1 c bv br L u0 u1 u2 u3 u4 u5 u6 u7 u8 u9 u10 u11 u12 u13 u15 w'):Ad base V n X M X' A B Z k F D q a1 b1 c bv br (fun j=>j == 6 || L j) u0 u1 u2 u3 u4 u5 (.agg (bl D).toArray) u7 u8 u9 u10 u11 u12 u13 u15 w':=
 ⟨aK h.fa0 rfl,aK h.fa1 rfl,aK h.fa2 rfl,aK h.fa3 rfl,aK h.fa4 rfl,aK h.fa5 rfl,fun _=>rfl,aK h.fa7 rfl,aK h.fa8 rfl,aK h.fa9 rfl,aK h.fa10 rfl,aK h.fa11 rfl,aK h.fa12 rfl,aK h.fa15 rfl,h.wd⟩
theorem Ad.set7(h:Ad base V n X M X' A B Z k F D q a1 b1 c bv br L u0 u1 u2 u3 u4 u5 u6 u7 u8 u9 u10 u11 u12 u13 u15 w'):Ad base V n X M X' A B Z k F D q a1 b1 c bv br (fun j=>j == 7 || L j) u0 u1 u2 u3 u4 u5 u6 (.int .i64 a1) u8 u9 u10 u11 u12 u13 u15 w':=
 ⟨aK h.fa0 rfl,aK h.fa1 rfl,aK h.fa2 rfl,aK h.fa3 rfl,aK h.fa4 rfl,aK h.fa5 rfl,aK h.fa6 rfl,fun _=>rfl,aK h.fa8 rfl,aK h.fa9 rfl,aK h.fa10 rfl,aK h.fa11 rfl,aK h.fa12 rfl,aK h.fa15 rfl,h.wd⟩
theorem Ad.set8(h:Ad base V n X M X' A B Z k F D q a1 b1 c bv br L u0 u1 u2 u3 u4 u5 u6 u7 u8 u9 u10 u11 u12 u13 u15 w'):Ad base V n X M X' A B Z k F D q a1 b1 c bv br (fun j=>j == 8 || L j) u0 u1 u2 u3 u4 u5 u6 u7 (.int .i64 b1) u9 u10 u11 u12 u13 u15 w':=
 ⟨aK h.fa0 rfl,aK h.fa1 rfl,aK h.fa2 rfl,aK h.fa3 rfl,aK h.fa4 rfl,aK h.fa5 rfl,aK h.fa6 rfl,aK h.fa7 rfl,fun _=>rfl,aK h.fa9 rfl,aK h.fa10 rfl,aK h.fa11 rfl,aK h.fa12 rfl,aK h.fa15 rfl,h.wd⟩
theorem Ad.set9(h:Ad base V n X M X' A B Z k F D q a1 b1 c bv br L u0 u1 u2 u3 u4 u5 u6 u7 u8 u9 u10 u11 u12 u13 u15 w')(hw:Wd base V n X M X' M A B Z k F 24 (Pt.pV Pt.pz).toArray (Pt.pV ⟨a1,b1,q⟩).toArray (true) (L 13) (L 14) u13 w''):Ad base V n X M X' A B Z k F D q a1 b1 c bv br (fun j=>j == 9 || L j) u0 u1 u2 u3 u4 u5 u6 u7 u8 (.tuple #[.agg (Pt.pV ⟨a1,b1,q⟩).toArray,.int .i64 0]) u10 u11 u12 u13 u15 w'':=
 ⟨aK h.fa0 rfl,aK h.fa1 rfl,aK h.fa2 rfl,aK h.fa3 rfl,aK h.fa4 rfl,aK h.fa5 rfl,aK h.fa6 rfl,aK h.fa7 rfl,aK h.fa8 rfl,fun _=>rfl,aK h.fa10 rfl,aK h.fa11 rfl,aK h.fa12 rfl,aK h.fa15 rfl,hw⟩
theorem Ad.set10(h:Ad base V n X M X' A B Z k F D q a1 b1 c bv br L u0 u1 u2 u3 u4 u5 u6 u7 u8 u9 u10 u11 u12 u13 u15 w'):Ad base V n X M X' A B Z k F D q a1 b1 c bv br (fun j=>j == 10 || L j) u0 u1 u2 u3 u4 u5 u6 u7 u8 u9 (.tuple #[.agg (Pt.pV ⟨a1,b1,q⟩).toArray,.int .i64 0]) u11 u12 u13 u15 w':=
 ⟨aK h.fa0 rfl,aK h.fa1 rfl,aK h.fa2 rfl,aK h.fa3 rfl,aK h.fa4 rfl,aK h.fa5 rfl,aK h.fa6 rfl,aK h.fa7 rfl,aK h.fa8 rfl,aK h.fa9 rfl,fun _=>rfl,aK h.fa11 rfl,aK h.fa12 rfl,aK h.fa15 rfl,h.wd⟩
theorem Ad.set11(h:Ad base V n X M X' A B Z k F D q a1 b1 c bv br L u0 u1 u2 u3 u4 u5 u6 u7 u8 u9 u10 u11 u12 u13 u15 w'):Ad base V n X M X' A B Z k F D q a1 b1 c bv br (fun j=>j == 11 || L j) u0 u1 u2 u3 u4 u5 u6 u7 u8 u9 u10 (.agg (Pt.pV ⟨a1,b1,q⟩).toArray) u12 u13 u15 w':=
 ⟨aK h.fa0 rfl,aK h.fa1 rfl,aK h.fa2 rfl,aK h.fa3 rfl,aK h.fa4 rfl,aK h.fa5 rfl,aK h.fa6 rfl,aK h.fa7 rfl,aK h.fa8 rfl,aK h.fa9 rfl,aK h.fa10 rfl,fun _=>rfl,aK h.fa12 rfl,aK h.fa15 rfl,h.wd⟩
theorem Ad.set12(h:Ad base V n X M X' A B Z k F D q a1 b1 c bv br L u0 u1 u2 u3 u4 u5 u6 u7 u8 u9 u10 u11 u12 u13 u15 w'):Ad base V n X M X' A B Z k F D q a1 b1 c bv br (fun j=>j == 12 || L j) u0 u1 u2 u3 u4 u5 u6 u7 u8 u9 u10 u11 (.int .i64 0) u13 u15 w':=
 ⟨aK h.fa0 rfl,aK h.fa1 rfl,aK h.fa2 rfl,aK h.fa3 rfl,aK h.fa4 rfl,aK h.fa5 rfl,aK h.fa6 rfl,aK h.fa7 rfl,aK h.fa8 rfl,aK h.fa9 rfl,aK h.fa10 rfl,aK h.fa11 rfl,fun _=>rfl,aK h.fa15 rfl,h.wd⟩
theorem Ad.set13{u:Value}(h:Ad base V n X M X' A B Z k F D q a1 b1 c bv br L u0 u1 u2 u3 u4 u5 u6 u7 u8 u9 u10 u11 u12 u13 u15 w')(hw:Wd base V n X M X' M A B Z k F 24 (Pt.pV Pt.pz).toArray (Pt.pV ⟨a1,b1,q⟩).toArray (L 9) (true) (L 14) u w''):Ad base V n X M X' A B Z k F D q a1 b1 c bv br (fun j=>j == 13 || L j) u0 u1 u2 u3 u4 u5 u6 u7 u8 u9 u10 u11 u12 u u15 w'':=
 ⟨aK h.fa0 rfl,aK h.fa1 rfl,aK h.fa2 rfl,aK h.fa3 rfl,aK h.fa4 rfl,aK h.fa5 rfl,aK h.fa6 rfl,aK h.fa7 rfl,aK h.fa8 rfl,aK h.fa9 rfl,aK h.fa10 rfl,aK h.fa11 rfl,aK h.fa12 rfl,aK h.fa15 rfl,hw⟩
theorem Ad.set14(h:Ad base V n X M X' A B Z k F D q a1 b1 c bv br L u0 u1 u2 u3 u4 u5 u6 u7 u8 u9 u10 u11 u12 u13 u15 w')(hw:Wd base V n X M X' M A B Z k F 24 (Pt.pV Pt.pz).toArray (Pt.pV ⟨a1,b1,q⟩).toArray (L 9) (L 13) (true) u13 w''):Ad base V n X M X' A B Z k F D q a1 b1 c bv br (fun j=>j == 14 || L j) u0 u1 u2 u3 u4 u5 u6 u7 u8 u9 u10 u11 u12 u13 u15 w'':=
 ⟨aK h.fa0 rfl,aK h.fa1 rfl,aK h.fa2 rfl,aK h.fa3 rfl,aK h.fa4 rfl,aK h.fa5 rfl,aK h.fa6 rfl,aK h.fa7 rfl,aK h.fa8 rfl,aK h.fa9 rfl,aK h.fa10 rfl,aK h.fa11 rfl,aK h.fa12 rfl,aK h.fa15 rfl,hw⟩
theorem Ad.set15(h:Ad base V n X M X' A B Z k F D q a1 b1 c bv br L u0 u1 u2 u3 u4 u5 u6 u7 u8 u9 u10 u11 u12 u13 u15 w'):Ad base V n X M X' A B Z k F D q a1 b1 c bv br (fun j=>j == 15 || L j) u0 u1 u2 u3 u4 u5 u6 u7 u8 u9 u10 u11 u12 u13 (.int .i64 0) w':=
 ⟨aK h.fa0 rfl,aK h.fa1 rfl,aK h.fa2 rfl,aK h.fa3 rfl,aK h.fa4 rfl,aK h.fa5 rfl,aK h.fa6 rfl,aK h.fa7 rfl,aK h.fa8 rfl,aK h.fa9 rfl,aK h.fa10 rfl,aK h.fa11 rfl,aK h.fa12 rfl,fun _=>rfl,h.wd⟩
end
def AdInv(x3 x5 x7 x8 x13 x14 x15 x16 x17 x18 x19 x20 x21 x22 x23 x24 x25 x26 x27 x28 x29 x30 x31 x32 x33 x34 x35 x36 x37 x38 x39 x40 x41 x42 x56 x57 x58 x59 x60 x61 x62 x63 x64:Value)(base:World)(V:Pl)(n:Nat)(X:Dst)(M:Tab)(X':Dst)(A B Z:Int)(k:Nat)(F D q:Nat→Int)(a1 b1 c:Int)(bv br:Nat)(L:Nat→Bool)(a':Act)(w':World):Prop:=
 ∃u0 u1 u2 u3 u4 u5 u6 u7 u8 u9 u10 u11 u12 u13 u15,a'={ tmps:=#[.pointer (some ⟨V.b,V.o,none⟩),.agg (bl D).toArray,.int .i64 c,x3,.pointer (some ⟨bv,0,none⟩),x5,.pointer (some ⟨br,0,none⟩),x7,x8,.int .i64 a1,.int .i64 b1,u15,u13,x13,x14,x15,x16,x17,x18,x19,x20,x21,x22,x23,x24,x25,x26,x27,x28,x29,x30,x31,x32,x33,x34,x35,x36,x37,x38,x39,x40,x41,x42,u10,u0,u1,u2,u3,u4,u5,u6,u7,u8,u9,u11,u12,x56,x57,x58,x59,x60,x61,x62,x63,x64],defers:=[] }∧Ad base V n X M X' A B Z k F D q a1 b1 c bv br L u0 u1 u2 u3 u4 u5 u6 u7 u8 u9 u10 u11 u12 u13 u15 w'
theorem add_ok{w:World}{V:Pl}{n k:Nat}{X:Dst}{M:Tab}{A B Z:Int}{f:Nat→Int}(h:HasVol w V n X M A B Z k f)(hm:TabOk M)(hB:Sp.i64 B)(hkp:Rm.Kp w)(D:Nat→Int)(c:Int)(hD:byt D)(hr:rv n X M A B Z k f=true)(hc:alB c=true)(hk:0 < k)(hok:Ok 23 X)(hz:Pt.fitsB Pt.hole D=false)(hM:M.k=0)(he:Sp.tkE A B Z k f c=0){X':Dst}{a1 b1:Int}(ha1:Sp.tkp A B Z k f c=a1)(hb1':Sp.tkq A B Z k f c=b1)
  (hp:pRes n X M D a1 b1=⟨⟨a1,b1,Pt.sumD D⟩,0,X',M⟩) (hok2:Ok 23 (wRes n X M a1 D).2.1) (hm2:TabOk (wRes n X M a1 D).2.2) :
  Calls Tryz.prog 84 #[.pointer (some ⟨V.b,V.o,none⟩),.agg (bl D).toArray,.int .i64 c] w fun e w'=>e=.returned (.tuple #[.agg (Pt.pV ⟨a1,b1,Pt.sumD D⟩).toArray,.int .i64 0])∧Tv w V n X' M A B Z k (Sp.tkF A B Z k f c) w':=by
 obtain⟨W,hW,hB0,hs0,hv0,hz0⟩:=Di.box_put w D
 have HR:=Lib.hid (right_v (h.below hB0) hm hB)
 have HA:=Lib.hid (allowed_any c)
 rw[hc] at HA
 have HFT:=Lib.hid (fun w' (hb:Below W.heap.size W w')=>Pt.fits_any Pt.hole D w' hD ((hkp.below hB0).below hb))
 rw[hz] at HFT
 have HVB:=Lib.hid (fun w' (hb:Below W.heap.size W w')=>row_all ((hb.block w.heap.size (by omega)).trans hv0))
 have HZ:=Lib.hid (fun w' (hb:Below W.heap.size W w')=>(hb.block (w.heap.size+1) (by omega)).trans hz0)
 have HVV:=Lib.hid (fun w' (hb:Below W.heap.size W w')=>(h.below hB0).below hb)
 have HTA:=Lib.hid (fun w' (hv:HasVol w' V n X M A B Z k f)=>take_v hv hk hB c)
 have HV0:=Lib.hid h
 have HKP:=Lib.hid hkp
 have HPU:=Lib.hid (fun w' (hv:HasVol w' V n X M A B Z k (Sp.tkF A B Z k f c)) (hkp:Rm.Kp w')=>put_v hv hkp hok hm D a1 b1 hD hok2 hm2)
 rw[hp] at HPU
 clear hp
 generalize Pt.sumD D=q at HPU ⊢
 have hvl:=h.lt
 have hv0n:=hasVol_ne h
 have HVR:=Lib.hid (fun w' (hb:Below W.heap.size W w')=>(hb.block w.heap.size (by omega)).trans hv0)
 clear h hm hB hv0 hz0 hkp hD hz hc
 rw[hr] at HR
 clear hr
 go_enter Tryz.func84,Tryz.ntmps84
 go_wp2_with fail
 rw[Pt.zrow,←hW]
 clear hW
 refine HR.out.mono ?_
 rintro _ w1 ⟨rfl,hb1⟩
 clear HR
 dsimp only
 go_wp2_with fail
 refine(HA.out w1).mono ?_
 rintro _ _ ⟨rfl,rfl⟩
 clear HA
 dsimp only
 go_wp2_with fail
 replace HVB:=Lib.hid (fun w' (hb:Below w1.heap.size w1 w')=>HVB.out w' (hb1.trans (hb.mono hb1.size)))
 replace HFT:=Lib.hid (fun w' (hb:Below w1.heap.size w1 w')=>HFT.out w' (hb1.trans (hb.mono hb1.size)))
 refine wp_region_quiet (C:=fun w'=>Below w1.heap.size w1 w') (by kernel_rfl) (by kernel_rfl) ⟨rfl,rfl,rfl,Nat.le_refl _,fun _ _=>rfl⟩ ?_
 refine q_call 88 _ (.agg (Pt.pV Pt.hole).toArray) rfl (fun w'=>by go_simp) (fun w' hw'=>(Pt.hole_any w').mono fun e w'' ⟨he,hb⟩=>⟨he,hw'.trans (hb.mono hw'.size)⟩) ?_
 simp only[Act.put,aA]
 refine q_loadB 47 (.tmp 4) rfl rfl w.heap.size 0 rfl (bl D) _ (fun w' hw'=>HVB.out w' hw') undB rfl (sB D) ?_
 simp only[Act.put,aA]
 refine q_call 107 _ (.bool false) rfl (fun w'=>by go_simp) (fun w' hw'=>(HFT.out w' hw').mono fun e w'' ⟨he,hb⟩=>⟨he,hw'.trans (hb.mono hw'.size)⟩) ?_
 simp only[Act.put,aA]
 refine wpQuiet_nil ?_
 intro w2 hw2
 clear HVB HFT
 have hB2:=hb1.trans (hw2.mono hb1.size)
 have hV2:=HVV.out w2 hB2
 obtain⟨sa,sc,ca,cc,pa,cap,ao,kc,hx⟩:=HasVol.open' hV2
 have c6:=hx.c6
 have c7:=hx.c7
 have c8:=hx.c8
 have c9:=hx.c9
 have hbs:Below w2.heap.size w2 (w2.alloc (.cells #[.int .i64 A,.int .i64 B,.int .i64 Z,.slice ao k kc] 41)):=(Below.refl _ _).alloc (Nat.le_refl _) _
 have HTK:=Lib.hid (HTA.out _ (hV2.below hbs))
 have hB3:=hB2.trans (hbs.mono hB2.size)
 clear hx hV2 hw2 HVV HTA
 go_wp2_with fail
 refine HTK.out.mono ?_
 rintro _ w4 ⟨rfl,hT4⟩
 clear HTK c6 c7 c8 c9
 generalize w2.alloc (.cells #[.int .i64 A,.int .i64 B,.int .i64 Z,.slice ao k kc] 41)=w3 at *
 have HT4:=Lib.hid hT4
 clear hbs hT4
 dsimp only
 rw[ha1,hb1',he]
 have hz3:=HZ.out w3 hB3
 have hv3:=HVR.out w3 hB3
 have hbe:Below w.heap.size w w3:=hB0.trans (hB3.mono hB0.size)
 have hs3:=hB3.size
 have hz4:=(HT4.out.g.block (w.heap.size+1) (by omega) (by simp; omega)).trans hz3
 have hv4:=(HT4.out.g.block w.heap.size (by omega) (by simp; omega)).trans hv3
 have HFW:Hid (Tv W V n X M A B Z k (Sp.tkF A B Z k f c) w4):=Lib.hid ((Tv.of (HV0.out.below hB0) hB3).trans HT4.out)
 have HF:Hid (Tv w V n X M A B Z k (Sp.tkF A B Z k f c) w4):=Lib.hid ((Tv.of HV0.out hB0).trans HFW.out)
 have HO:Hid (Off w4 V (w.heap.size+1)):=Lib.hid (((Off.new HV0.out hk (by omega)).below hvl hB0).loc (by omega) HFW.out.l)
 have hK4:=HKP.out.grown HF.out.g hv0n
 have hs4:w.heap.size+2≤w4.heap.size:=by have:=HT4.out.g.size; omega
 clear he ha1 hb1' hz3 hv3 hbe HV0 HT4 HZ HFW HVR HKP hB2 hB3 hs3 hb1
 have HZ4:=Lib.hid hz4
 have HVB:=Lib.hid (fun w' (hg:w4.grownBy w' (some V.b))=>row_all ((hg.block w.heap.size (by omega) (by simp; omega)).trans hv4))
 have HKK:=Lib.hid (fun w' (hg:w4.grownBy w' (some V.b))=>hK4.grown hg hv0n)
 have HSTART:=Lib.hid (Wd.start (X':=X') (M':=M) (T:=24) (old:=(Pt.pV Pt.pz).toArray) (new:=(Pt.pV ⟨a1,b1,q⟩).toArray) (u:=undef) HF.out.v)
 have c8':=hk
 clear hz4 hv4 hK4
 go_wp2_with fail
 refine QuietTail2.regionInv (n:=16) (Inv:=AdInv _ _ _ _ _ _ _ _ _ _ _ _ _ _ _ _ _ _ _ _ _ _ _ _ _ _ _ _ _ _ _ _ _ _ _ _ _ _ _ _ _ _ _ w4 V n X M X' A B Z k (Sp.tkF A B Z k f c) D q a1 b1 c w.heap.size (w.heap.size+1)) (by kernel_rfl) (by decide) (by kernel_rfl) ⟨_,_,_,_,_,_,_,_,_,_,_,_,_,_,_,rfl,⟨by simp,by simp,by simp,by simp,by simp,by simp,by simp,by simp,by simp,by simp,by simp,by simp,by simp,by simp,?_⟩⟩ ?step ?fin
 exact HSTART.out
 case step=>
  rintro i o hi ho L a' w' ⟨u0,u1,u2,u3,u4,u5,u6,u7,u8,u9,u10,u11,u12,u13,u15,rfl,TT⟩ hL hpre
  match i,hi with
  | 0,_=>
   simp at ho
   subst ho
   go_simp
   exact⟨_,u1,u2,u3,u4,u5,u6,u7,u8,u9,u10,u11,u12,u13,u15,rfl,TT.set0⟩
  | 1,_=>
   simp at ho
   subst ho
   obtain rfl:=TT.fa0 (hpre 0 (by kernel_rfl))
   go_simp
   exact⟨_,_,u2,u3,u4,u5,u6,u7,u8,u9,u10,u11,u12,u13,u15,rfl,TT.set1⟩
  | 2,_=>
   simp at ho
   subst ho
   obtain rfl:=TT.fa1 (hpre 1 (by kernel_rfl))
   go_simp
   exact⟨u0,_,_,u3,u4,u5,u6,u7,u8,u9,u10,u11,u12,u13,u15,rfl,TT.set2⟩
  | 3,_=>
   simp at ho
   subst ho
   go_simp
   exact⟨u0,u1,u2,_,u4,u5,u6,u7,u8,u9,u10,u11,u12,u13,u15,rfl,TT.set3⟩
  | 4,_=>
   simp at ho
   subst ho
   obtain rfl:=TT.fa3 (hpre 3 (by kernel_rfl))
   go_simp
   exact⟨u0,u1,u2,_,_,u5,u6,u7,u8,u9,u10,u11,u12,u13,u15,rfl,TT.set4⟩
  | 5,_=>
   simp at ho
   subst ho
   obtain rfl:=TT.fa4 (hpre 4 (by kernel_rfl))
   go_simp
   exact⟨u0,u1,u2,u3,_,_,u6,u7,u8,u9,u10,u11,u12,u13,u15,rfl,TT.set5⟩
  | 6,_=>
   simp at ho
   subst ho
   refine wp_load_mid 47 (.tmp 4) rfl w.heap.size 0 rfl (bl D) _ (HVB.out w' TT.wd.g) undB rfl (sB D) ?_
   simp only[Act.put,aA]
   exact⟨u0,u1,u2,u3,u4,u5,_,u7,u8,u9,u10,u11,u12,u13,u15,rfl,TT.set6⟩
  | 7,_=>
   simp at ho
   subst ho
   go_simp
   exact⟨u0,u1,u2,u3,u4,u5,u6,_,u8,u9,u10,u11,u12,u13,u15,rfl,TT.set7⟩
  | 8,_=>
   simp at ho
   subst ho
   go_simp
   exact⟨u0,u1,u2,u3,u4,u5,u6,u7,_,u9,u10,u11,u12,u13,u15,rfl,TT.set8⟩
  | 9,_=>
   simp at ho
   subst ho
   obtain rfl:=TT.fa2 (hpre 2 (by kernel_rfl))
   obtain rfl:=TT.fa5 (hpre 5 (by kernel_rfl))
   obtain rfl:=TT.fa6 (hpre 6 (by kernel_rfl))
   obtain rfl:=TT.fa7 (hpre 7 (by kernel_rfl))
   obtain rfl:=TT.fa8 (hpre 8 (by kernel_rfl))
   go_simp
   refine(HPU.out w' (TT.wd.p0 hL) (HKK.out w' TT.wd.g)).mono ?_
   rintro _ w'' ⟨rfl,hT⟩
   exact⟨u0,u1,_,u3,u4,_,_,_,_,_,u10,u11,u12,u13,u15,rfl,TT.set9 (TT.wd.call hL hT)⟩
  | 10,_=>
   simp at ho
   subst ho
   obtain rfl:=TT.fa9 (hpre 9 (by kernel_rfl))
   go_simp
   exact⟨u0,u1,u2,u3,u4,u5,u6,u7,u8,_,_,u11,u12,u13,u15,rfl,TT.set10⟩
  | 11,_=>
   simp at ho
   subst ho
   obtain rfl:=TT.fa10 (hpre 10 (by kernel_rfl))
   go_simp
   exact⟨u0,u1,u2,u3,u4,u5,u6,u7,u8,u9,_,_,u12,u13,u15,rfl,TT.set11⟩
  | 12,_=>
   simp at ho
   subst ho
   obtain rfl:=TT.fa10 (hpre 10 (by kernel_rfl))
   go_simp
   exact⟨u0,u1,u2,u3,u4,u5,u6,u7,u8,u9,_,u11,_,u13,u15,rfl,TT.set12⟩
  | 13,_=>
   simp at ho
   subst ho
   go_simp
   exact⟨u0,u1,u2,u3,u4,u5,u6,u7,u8,u9,u10,u11,u12,_,u15,rfl,TT.set13 (TT.wd.alloc hL hk)⟩
  | 14,_=>
   simp at ho
   subst ho
   have hw:=TT.wd
   obtain⟨bk,e1,h1,h2,h3⟩:=hw.al (hpre 13 (by kernel_rfl))
   obtain rfl:=e1
   obtain rfl:=TT.fa11 (hpre 11 (by kernel_rfl))
   rw[hpre 9 (by kernel_rfl),hpre 13 (by kernel_rfl),hL] at hw
   refine wp_store_row 24 (.tmp 12) (.tmp 54) rfl bk (Pt.pV ⟨a1,b1,q⟩).toArray rfl rfl 24 _ (hw.row rfl rfl) (Pt.sizeP' _) rfl (Pt.pV_all _) ?_
   simp only[Act.put]
   refine⟨u0,u1,u2,u3,u4,u5,u6,u7,u8,u9,u10,_,u12,_,u15,rfl,TT.set14 ?_⟩
   rw[hpre 9 (by kernel_rfl),hpre 13 (by kernel_rfl)]
   exact hw.store hk (by decide) (by decide) (.inl hM)
  | 15,_=>
   simp at ho
   subst ho
   obtain rfl:=TT.fa12 (hpre 12 (by kernel_rfl))
   go_simp
   exact⟨u0,u1,u2,u3,u4,u5,u6,u7,u8,u9,u10,u11,_,u13,_,rfl,TT.set15⟩
  | i+16,h=>omega
 case fin=>
  rintro L a' w' hall ⟨u0,u1,u2,u3,u4,u5,u6,u7,u8,u9,u10,u11,u12,u13,u15,rfl,TT⟩
  have HWD:=Lib.hid (by have:=TT.wd; rwa [hall 9 (by omega),hall 13 (by omega),hall 14 (by omega)] at this:Wd w4 V n X M X' M A B Z k (Sp.tkF A B Z k f c) 24 (Pt.pV Pt.pz).toArray (Pt.pV ⟨a1,b1,q⟩).toArray true true true u13 w')
  obtain⟨bk,e1,h1,h2,h3⟩:=HWD.out.al rfl
  obtain rfl:=e1
  obtain rfl:=TT.fa15 (hall 15 (by omega))
  have hT:=(⟨HWD.out.p1 rfl,HWD.out.g,HWD.out.l⟩:Tv w4 V n X' M A B Z k (Sp.tkF A B Z k f c) w')
  have HFF:=Lib.hid (HF.out.trans hT)
  have hz5:=(HWD.out.g.block (w.heap.size+1) (by omega) (by simp; omega)).trans HZ4.out
  have HO5:=Lib.hid (HO.out.loc (by omega) hT.l)
  have q5:=Pt.rP h3
  clear TT h1 h2 h3 hT
  refine wpList_nil ?_
  go_wp2_with (first
   | (refine @wG _ _ _ _ _ _ _ (by kernel_rfl) 24 (.tmp 12) rfl bk 0 rfl (Pt.pV ⟨a1,b1,q⟩) _ q5 Pt.undP rfl (Pt.sizeP _) ?_; simp only[Act.put,aA])
   | (refine @wpList_store_row _ _ _ _ _ _ _ rfl 24 (.tmp 6) (.tmp 64) rfl (w.heap.size+1) (Pt.pV ⟨a1,b1,q⟩).toArray rfl rfl 24 _ hz5 (Pt.sizeP' _) rfl (Pt.pV_all _) ?_; simp only[Act.put]))
  refine bodyPost_ret (Pt.rTp rfl rfl rfl (setRow_heap _ _ _ _ _ _ hz5)) rfl ?_
  obtain⟨hf1,hf2⟩:=hasVol_only HFF.out.v hk HO5.out hz5 (by decide) (by decide) (.inl hM) (gR (Pt.pV ⟨a1,b1,q⟩).toArray)
  exact⟨rfl,hf1,grown_only HFF.out.g (Nat.le_succ _) (gR _),HFF.out.l.trans (Loc.same (World.cell?_of_block (setRow_other _ _ _ _ (show V.b≠w.heap.size+1 by omega)))) HFF.out.g.size⟩
end Vl
end Go.Proofs.YteaocagepfgfnaaGreatDoor
