import Derived.Test.YteaocagepfgfnaaGreatDoorPStA
import Derived.Test.YteaocagepfgfnaaGreatDoorPQRm
import Derived.Test.YteaocagepfgfnaaGreatDoorPAl
set_option maxRecDepth 100000
set_option maxHeartbeats 8000000
namespace Go.Proofs.YteaocagepfgfnaaGreatDoor
namespace St
open Go.RowKit Dk Gm Eqb Rm Di
attribute [local go_sem] Pt.zvP Pt.zv3
attribute [local go_sem] Pt.zc3
theorem undS:Tryz.prog.underlying 26=some (.struct (Tryz.prog.fieldsOf 26)):=by kernel_rfl
theorem box_p(w:World)(p:Pt.Pn):∃W,W=w.alloc (.cells (Pt.pV p).toArray 24)∧Below w.heap.size w W∧W.heap[w.heap.size]?=some (.cells (Pt.pV p).toArray 24 (0,0))∧W.heap.size=w.heap.size+1:=by
 obtain⟨h1,h2,h3⟩:=Pt.box_pt w p
 exact⟨_,rfl,h1,h2,h3⟩
theorem box_s(w:World)(p:Pt.Pn)(s c:Int):∃W,W=w.alloc (.cells (sV p s c).toArray 26)∧Below w.heap.size w W∧Bst W w.heap.size p s c∧W.heap.size=w.heap.size+1:=by
 obtain⟨h1,h2,h3⟩:=bst_new w p s c
 exact⟨_,rfl,h1,h2,h3⟩
def kpB(p:Pt.Pn)(c:Int):Bool:=Pt.isHole p || ((p.B == -1) == (c == 1))
theorem kept_any(p:Pt.Pn)(c:Int)(w:World):Calls Tryz.prog 86 #[.agg (Pt.pV p).toArray,.int .i64 c] w fun e w'=>e=.returned (.bool (kpB p c))∧Below w.heap.size w w':=by
 obtain⟨W,hW,hb0,hx0,hs0⟩:=box_p w p
 have hr0:=Pt.rP hx0
 have HI:=Lib.hid (fun W=>Pt.ishole_any p W)
 have HV:Hid (kpB p c=(Pt.isHole p || ((p.B == -1) == (c == 1)))):=Lib.hid rfl
 rw[HV.out]
 generalize Pt.isHole p=hh at *
 go_enter Tryz.func86,Tryz.ntmps86
 go_wp2_with (first | (rw[←hW]) | (refine wpList_load_mid rfl 24 (.tmp 2) rfl w.heap.size 0 rfl (Pt.pV p) _ (by exact hr0) Pt.undP rfl (Pt.sizeP p) ?_; simp only[Act.put,aA]))
 refine(HI.out W).mono ?_
 rintro _ w1 ⟨rfl,hb1⟩
 have hB:=hb0.trans (hb1.mono hb0.size)
 have c1:w1.cell? ⟨w.heap.size,1,none⟩=some (.int .i64 p.B):=by rw[cell_of_row _ _ _ _ _ _ ((hb1.block w.heap.size (by omega)).trans hx0)]; rfl
 clear hx0 hb1 hb0 hr0 hW HI HV
 dsimp only
 cases hh with
 | true=>
  go_wp2_with fail
  go_ret
  exact⟨rfl,hB⟩
 | false=>
  go_wp2_with fail
  go_ret
  exact⟨rfl,hB⟩
theorem wpList_build2{ops:Array Oper}{rest:List Oper}{o:Oper}{a:Act}{w:World}{Q:Exit→Act→World→Prop}(hg:o.guard=none)(t:TypeId)(i j:Nat)(x y:Operand)(ho:o.op=.build t #[(i,x),(j,y)])(d:Option Tmp)(hd:o.dst=d)(X Y:Value)(hx:a.eval x=X)(hy:a.eval y=Y)
  (cells:Array Value) (hf:Tryz.prog.built t [(i,X),(j,Y)]=some cells) (h:wpList Tryz.prog ops Q rest (a.put d (.agg cells)) w):wpList Tryz.prog ops Q (o :: rest) a w:=
 wpList_buildTo hg t _ ho d hd cells (by
  have e:((#[(i,x),(j,y)]:Array (Nat × Operand)).map fun(i,x)=>(i,a.eval x)).toList=[(i,X),(j,Y)]:=by simp[hx,hy]
  rw[e]
  exact hf) h
theorem wpList_build3{ops:Array Oper}{rest:List Oper}{o:Oper}{a:Act}{w:World}{Q:Exit→Act→World→Prop}(hg:o.guard=none)(t:TypeId)(i j k:Nat)(x y z:Operand)(ho:o.op=.build t #[(i,x),(j,y),(k,z)])(d:Option Tmp)(hd:o.dst=d)(X Y Z:Value)(hx:a.eval x=X)(hy:a.eval y=Y)(hz:a.eval z=Z)
  (cells:Array Value) (hf:Tryz.prog.built t [(i,X),(j,Y),(k,Z)]=some cells) (h:wpList Tryz.prog ops Q rest (a.put d (.agg cells)) w):wpList Tryz.prog ops Q (o :: rest) a w:=
 wpList_buildTo hg t _ ho d hd cells (by
  have e:((#[(i,x),(j,y),(k,z)]:Array (Nat × Operand)).map fun(i,x)=>(i,a.eval x)).toList=[(i,X),(j,Y),(k,Z)]:=by simp[hx,hy,hz]
  rw[e]
  exact hf) h
theorem built3h:Tryz.prog.built 83 [(0,.agg (Pt.pV Pt.hole).toArray),(1,.agg (Pt.pV Pt.hole).toArray),(2,.agg (Pt.pV Pt.hole).toArray)]=some (Pt.f3 fun _=>Pt.hole).toArray:=by kernel_rfl
theorem box_3(w:World)(P:Nat→Pt.Pn):∃W,W=w.alloc (.cells (Pt.f3 P).toArray 83)∧Below w.heap.size w W∧W.heap[w.heap.size]?=some (.cells (Pt.f3 P).toArray 83 (0,0))∧W.heap.size=w.heap.size+1:=
 ⟨_,rfl,(Below.refl _ _).alloc (Nat.le_refl _) _,heap_alloc_new _ _,by simp⟩
theorem results_3{tmps:Array Value}{w:World}{B:Nat}{Q:Nat→Pt.Pn}{fn:Func}{s:Nat}(hf:fn.results=#[.cell s 83])(h4:tmps.getD s undef=.pointer (some ⟨B,0,none⟩))
  (kV:w.heap[B]?=some (.cells (Pt.f3 Q).toArray 83 (0,0))):(results fn tmps).run Tryz.prog w=.ok (.agg (Pt.f3 Q).toArray) w:=by
 have h4':tmps[s]?.getD undef=.pointer (some ⟨B,0,none⟩):=by simpa using h4
 have hv:=run_loadVar_row (P:=Tryz.prog) w B 83 83 (Pt.f3 Q).toArray (0,0) _ kV Pt.und3 rfl (Pt.size3' Q)
 simp[results,hf,h4',asAddr,hv]
theorem holes_any(w:World):Calls Tryz.prog 72 #[] w fun e w'=>e=.returned (.agg (Pt.f3 fun _=>Pt.hole).toArray)∧Below w.heap.size w w':=by
 have HH:=Lib.hid (fun W=>Pt.hole_any W)
 obtain⟨W,hW,hb0,hx0,hs0⟩:=box_3 w Pt.zP
 go_enter Tryz.func72,Tryz.ntmps72
 go_wp2_with (rw[←hW])
 refine(HH.out _).mono ?_
 rintro _ w1 ⟨rfl,hb1⟩
 dsimp only
 go_wp2_with fail
 refine(HH.out _).mono ?_
 rintro _ w2 ⟨rfl,hb2⟩
 dsimp only
 go_wp2_with fail
 refine(HH.out _).mono ?_
 rintro _ w3 ⟨rfl,hb3⟩
 have hB1:=hb1.trans (hb2.mono hb1.size)
 have hB:=hB1.trans (hb3.mono hB1.size)
 have hx3:=(hB.block w.heap.size (by omega)).trans hx0
 have hBB:=hb0.trans (hB.mono hb0.size)
 clear hx0 hb1 hb2 hb3 hB1 hB hW HH
 dsimp only
 go_wp2_with (first | (refine wpList_build3 rfl 83 0 1 2 (.tmp 1) (.tmp 2) (.tmp 3) rfl _ rfl (.agg (Pt.pV Pt.hole).toArray) (.agg (Pt.pV Pt.hole).toArray) (.agg (Pt.pV Pt.hole).toArray) rfl rfl rfl (Pt.f3 fun _=>Pt.hole).toArray built3h ?_; simp only[Act.put,aA]) | (refine @wpList_store_row _ _ _ _ _ _ _ rfl 83 (.tmp 0) (.tmp 4) rfl w.heap.size (Pt.f3 (fun _=>Pt.hole)).toArray rfl rfl 83 _ hx3 (Pt.size3' _) rfl (Pt.f3_all _) ?_; simp only[Act.put]))
 refine bodyPost_ret (results_3 rfl rfl (setRow_heap _ _ _ _ _ _ hx3)) rfl ?_
 exact⟨rfl,below_only hBB (Nat.le_refl _) (gR _)⟩
def rsB(p:Pt.Pn)(s c:Int):Bool:=Pt.rightB p && (szB s && alB c)
theorem right_any(p:Pt.Pn)(s c:Int)(w:World):Calls Tryz.prog 6 #[.agg (sV p s c).toArray] w fun e w'=>e=.returned (.bool (rsB p s c))∧Below w.heap.size w w':=by
 obtain⟨W,hW,hb0,hx0,hs0⟩:=box_s w p s c
 have hr0:=hx0.pt
 have HI:=Lib.hid (fun W=>Pt.right_any p W)
 have HS:=Lib.hid (fun W=>sized_any s W)
 have HA:=Lib.hid (fun W=>allowed_any c W)
 have HV:Hid (rsB p s c=(Pt.rightB p && (szB s && alB c))):=Lib.hid rfl
 rw[HV.out]
 generalize Pt.rightB p=r1 at *
 generalize szB s=r2 at *
 generalize alB c=r3 at *
 go_enter Tryz.func6,Tryz.ntmps6
 go_wp2_with (first | (rw[←hW]) | (refine wpList_load_mid rfl 24 (.tmp 3) rfl w.heap.size 0 rfl (Pt.pV p) _ (by exact hr0) Pt.undP rfl (Pt.sizeP p) ?_; simp only[Act.put,aA]))
 refine(HI.out W).mono ?_
 rintro _ w1 ⟨rfl,hb1⟩
 have hB:=hb0.trans (hb1.mono hb0.size)
 have hx1:=hx0.keep (hb1.block w.heap.size (by omega))
 have c1:=hx1.size
 have c2:=hx1.copies
 clear hx0 hb1 hb0 hr0 hW HI HV hx1
 dsimp only
 cases r1 with
 | false=>
  go_wp2_with fail
  go_ret
  exact⟨rfl,hB⟩
 | true=>
  go_wp2_with fail
  refine(HS.out w1).mono ?_
  rintro _ _ ⟨rfl,rfl⟩
  dsimp only
  cases r2 with
  | false=>
   go_wp2_with fail
   go_ret
   exact⟨rfl,hB⟩
  | true=>
   go_wp2_with fail
   refine(HA.out w1).mono ?_
   rintro _ _ ⟨rfl,rfl⟩
   dsimp only
   go_wp2_with fail
   go_ret
   exact⟨rfl,hB⟩
end St
namespace St
open Go.RowKit Dk Gm Eqb Rm Di Vl
open Vm (HasVol)
attribute [local irreducible] wpQuiet
theorem on_any{w:World}{V:Pl}{n k:Nat}{X:Dst}{M:Tab}{A B Z:Int}{f:Nat→Int}(h:HasVol w V n X M A B Z k f)(hm:TabOk M)(hB:Sp.i64 B)(p:Pt.Pn)(s c:Int)(hpA:Sp.i64 p.A)(hpB:Sp.i64 p.B) :
  Calls Tryz.prog 38 #[.pointer (some ⟨V.b,V.o,none⟩),.agg (sV p s c).toArray] w fun e w'=>e=.returned (.bool (rsB p s c && mn n X M A B Z k f p))∧Below w.heap.size w w':=by
 obtain⟨sa,sc,ca,cc,pa,cap,ao,kc,hx⟩:=HasVol.open' h
 obtain⟨W,hW,hb0,hx0,hs0⟩:=box_s w p s c
 have HX:=Lib.hid (fun w' (hb:Below W.heap.size W w')=>hx.below (hb0.trans (hb.mono hb0.size)))
 have HMI:=Lib.hid (fun w' (hb:Below W.heap.size W w')=>Mine_any sa n sc ca X.m cc X.f X.d M.gen pa M.k cap A B Z ao k kc V.b X.C M.F M.T f p w' (by have:=hx.nb; omega) (by have:=hx.mb; omega) (HX.out w' hb).cs (HX.out w' hb).ls hm.1 hm.2 hB (HX.out w' hb).st hpA hpB)
 have HR:=Lib.hid (fun w'=>right_any p s c w')
 have HS:=Lib.hid (fun w' (hb:Below W.heap.size W w')=>hx0.keep (hb.block w.heap.size (by omega)))
 have hv:Hid (mn n X M A B Z k f p=mnB n X.m X.C M.gen M.k M.F M.T A B Z k f p):=Lib.hid rfl
 rw[hv.out]
 generalize mnB n X.m X.C M.gen M.k M.F M.T A B Z k f p=mi at HMI ⊢
 generalize rsB p s c=R at HR ⊢
 clear hx h hm hB hv hx0
 go_enter Tryz.func38,Tryz.ntmps38
 go_wp2_with (rw[←hW])
 cases R with
 | true=>
  refine wp_region_quiet (C:=fun w'=>Below W.heap.size W w') (by kernel_rfl) (by kernel_rfl) ⟨rfl,rfl,rfl,Nat.le_refl _,fun _ _=>rfl⟩ ?_
  refine q_move _ rfl rfl ?_
  simp only[Act.put,aA]
  refine q_val (.bool true) rfl (fun w' hw'=>by go_simp) ?_
  simp only[Act.put,aA]
  refine q_move _ rfl rfl ?_
  simp only[Act.put,aA]
  refine q_loadB 26 (.tmp 3) rfl (by kernel_rfl) w.heap.size 0 rfl (sV p s c) _ (fun w' hw'=>(HS.out w' hw').all) undS rfl (sizeS p s c) ?_
  simp only[Act.put,aA]
  refine q_call 6 _ (.bool true) (by kernel_rfl) (fun w'=>by go_simp) (fun w' hw'=>(HR.out w').mono fun e w'' ⟨he,hb⟩=>⟨he,hw'.trans (hb.mono hw'.size)⟩) ?_
  simp only[Act.put,aA]
  refine q_val (.bool true) rfl (fun w' hw'=>by go_simp) ?_
  simp only[Act.put,aA]
  refine q_move _ rfl rfl ?_
  simp only[Act.put,aA]
  refine q_move _ rfl (by kernel_rfl) ?_
  simp only[Act.put,aA]
  refine q_val (.pointer (some ⟨V.b,V.o,none⟩)) (by kernel_rfl) (fun w' hw'=>by go_simp) ?_
  simp only[Act.put,aA]
  refine q_val (.agg #[.slice sa n sc,.slice ca X.m cc,.int .i64 X.f,.bool X.d,.int .i64 M.gen,.slice pa M.k cap,.int .i64 A,.int .i64 B,.int .i64 Z,.slice ao k kc]) (by kernel_rfl) (fun w' hw'=>by have hv:=HX.out w' hw'; have k0:=hv.c0; have k1:=hv.c1; have k2:=hv.c2; have k3:=hv.c3; have k4:=hv.c4; have k5:=hv.c5; have k6:=hv.c6; have k7:=hv.c7; have k8:=hv.c8; have k9:=hv.c9; go_simp) ?_
  simp only[Act.put,aA]
  refine q_val (.pointer (some ⟨w.heap.size,0,none⟩)) (by kernel_rfl) (fun w' hw'=>by go_simp) ?_
  simp only[Act.put,aA]
  refine q_loadB 24 (.tmp 15) rfl (by kernel_rfl) w.heap.size 0 rfl (Pt.pV p) _ (fun w' hw'=>(HS.out w' hw').pt) Pt.undP rfl (Pt.sizeP p) ?_
  simp only[Act.put,aA]
  refine q_call 71 _ (.bool mi) (by kernel_rfl) (fun w'=>by go_simp) (fun w' hw'=>(HMI.out w' hw').mono fun e w'' ⟨he,hb⟩=>⟨he,hw'.trans (hb.mono hw'.size)⟩) ?_
  simp only[Act.put,aA]
  refine q_val (.bool mi) rfl (fun w' hw'=>by go_simp) ?_
  simp only[Act.put,aA]
  refine q_val (.bool mi) rfl (fun w' hw'=>by go_simp) ?_
  simp only[Act.put,aA]
  refine wpQuiet_nil ?_
  intro w2 hw2
  have hB2:=hb0.trans (hw2.mono hb0.size)
  clear HX HMI HR HS hw2
  go_wp2_with fail
  go_ret
  exact⟨rfl,hB2⟩
 | false=>
  refine wp_region_quiet (C:=fun w'=>Below W.heap.size W w') (by kernel_rfl) (by kernel_rfl) ⟨rfl,rfl,rfl,Nat.le_refl _,fun _ _=>rfl⟩ ?_
  refine q_move _ rfl rfl ?_
  simp only[Act.put,aA]
  refine q_val (.bool true) rfl (fun w' hw'=>by go_simp) ?_
  simp only[Act.put,aA]
  refine q_move _ rfl rfl ?_
  simp only[Act.put,aA]
  refine q_loadB 26 (.tmp 3) rfl (by kernel_rfl) w.heap.size 0 rfl (sV p s c) _ (fun w' hw'=>(HS.out w' hw').all) undS rfl (sizeS p s c) ?_
  simp only[Act.put,aA]
  refine q_call 6 _ (.bool false) (by kernel_rfl) (fun w'=>by go_simp) (fun w' hw'=>(HR.out w').mono fun e w'' ⟨he,hb⟩=>⟨he,hw'.trans (hb.mono hw'.size)⟩) ?_
  simp only[Act.put,aA]
  refine q_val (.bool false) rfl (fun w' hw'=>by go_simp) ?_
  simp only[Act.put,aA]
  refine q_move _ rfl rfl ?_
  simp only[Act.put,aA]
  refine BigFrame.wpQuiet_skip (by kernel_rfl) ?_
  simp only[Act.put,aA]
  refine BigFrame.wpQuiet_skip (by kernel_rfl) ?_
  simp only[Act.put,aA]
  refine BigFrame.wpQuiet_skip (by kernel_rfl) ?_
  simp only[Act.put,aA]
  refine BigFrame.wpQuiet_skip (by kernel_rfl) ?_
  simp only[Act.put,aA]
  refine BigFrame.wpQuiet_skip (by kernel_rfl) ?_
  simp only[Act.put,aA]
  refine BigFrame.wpQuiet_skip (by kernel_rfl) ?_
  simp only[Act.put,aA]
  refine q_val (.bool false) rfl (fun w' hw'=>by go_simp) ?_
  simp only[Act.put,aA]
  refine q_val (.bool false) rfl (fun w' hw'=>by go_simp) ?_
  simp only[Act.put,aA]
  refine wpQuiet_nil ?_
  intro w2 hw2
  have hB2:=hb0.trans (hw2.mono hb0.size)
  clear HX HMI HR HS hw2
  go_wp2_with fail
  go_ret
  exact⟨rfl,hB2⟩
end St
namespace St
open Go.RowKit Dk Gm Eqb Rm Di Vl Qv
open Vm (HasVol vM)
attribute [local irreducible] wpQuiet
theorem foreign_any{w:World}{V:Pl}{n k:Nat}{X:Dst}{M:Tab}{A B Z:Int}{f:Nat→Int}(h:HasVol w V n X M A B Z k f)(hm:TabOk M)(hB:Sp.i64 B)(p:Pt.Pn)(hpA:Sp.i64 p.A)(hpB:Sp.i64 p.B){vb:Nat}(hvb:w.cell? ⟨vb,0,none⟩=some (.pointer (some ⟨V.b,V.o,none⟩))) :
  Calls Tryz.prog 74 #[.agg (Pt.pV p).toArray,.pointer (some ⟨vb,0,none⟩)] w fun e w'=>e=.returned (.bool (!mn n X M A B Z k f p))∧Below w.heap.size w w':=by
 obtain⟨sa,sc,ca,cc,pa,cap,ao,kc,hx⟩:=HasVol.open' h
 obtain⟨W,hW,hb0,hx0,hs0⟩:=box_p w p
 have hlt:=World.block_lt_of_cell? w _ hvb
 have HX:=Lib.hid (fun w' (hb:Below W.heap.size W w')=>hx.below (hb0.trans (hb.mono hb0.size)))
 have HMI:=Lib.hid (fun w' (hb:Below W.heap.size W w')=>Mine_any sa n sc ca X.m cc X.f X.d M.gen pa M.k cap A B Z ao k kc V.b X.C M.F M.T f p w' (by have:=hx.nb; omega) (by have:=hx.mb; omega) (HX.out w' hb).cs (HX.out w' hb).ls hm.1 hm.2 hB (HX.out w' hb).st hpA hpB)
 have HP:=Lib.hid (fun w' (hb:Below W.heap.size W w')=>Pt.rP ((hb.block w.heap.size (by omega)).trans hx0))
 have HC:=Lib.hid (fun w' (hb:Below W.heap.size W w')=>((hb0.trans (hb.mono hb0.size)).cell (p:=⟨vb,0,none⟩) hlt).trans hvb)
 have hv:Hid (mn n X M A B Z k f p=mnB n X.m X.C M.gen M.k M.F M.T A B Z k f p):=Lib.hid rfl
 rw[hv.out]
 generalize mnB n X.m X.C M.gen M.k M.F M.T A B Z k f p=mi at HMI ⊢
 clear hx h hm hB hv hx0
 go_enter Tryz.func74,Tryz.ntmps74
 go_wp2_with (rw[←hW])
 refine wp_region_quiet (C:=fun w'=>Below W.heap.size W w') (by kernel_rfl) (by kernel_rfl) ⟨rfl,rfl,rfl,Nat.le_refl _,fun _ _=>rfl⟩ ?_
 refine q_val (.pointer (some ⟨V.b,V.o,none⟩)) rfl (fun w' hw'=>by have hc:=HC.out w' hw'; go_simp) ?_
 simp only[Act.put,aA]
 refine q_val (.pointer (some ⟨V.b,V.o,none⟩)) rfl (fun w' hw'=>by go_simp) ?_
 simp only[Act.put,aA]
 refine q_val (.agg #[.slice sa n sc,.slice ca X.m cc,.int .i64 X.f,.bool X.d,.int .i64 M.gen,.slice pa M.k cap,.int .i64 A,.int .i64 B,.int .i64 Z,.slice ao k kc]) rfl (fun w' hw'=>by have hv:=HX.out w' hw'; have k0:=hv.c0; have k1:=hv.c1; have k2:=hv.c2; have k3:=hv.c3; have k4:=hv.c4; have k5:=hv.c5; have k6:=hv.c6; have k7:=hv.c7; have k8:=hv.c8; have k9:=hv.c9; go_simp) ?_
 simp only[Act.put,aA]
 refine q_loadB 24 (.tmp 2) rfl rfl w.heap.size 0 rfl (Pt.pV p) _ (fun w' hw'=>HP.out w' hw') Pt.undP rfl (Pt.sizeP p) ?_
 simp only[Act.put,aA]
 refine q_call 71 _ (.bool mi) rfl (fun w'=>by go_simp) (fun w' hw'=>(HMI.out w' hw').mono fun e w'' ⟨he,hb⟩=>⟨he,hw'.trans (hb.mono hw'.size)⟩) ?_
 simp only[Act.put,aA]
 refine q_val (.bool (!mi)) rfl (fun w' hw'=>by go_simp) ?_
 simp only[Act.put,aA]
 refine q_val (.bool (!mi)) rfl (fun w' hw'=>by go_simp) ?_
 simp only[Act.put,aA]
 refine wpQuiet_nil ?_
 intro w2 hw2
 have hB2:=hb0.trans (hw2.mono hb0.size)
 clear HX HMI HP HC hw2
 go_wp2_with fail
 go_ret
 exact⟨rfl,hB2⟩
theorem f3_row{w:World}{b:Nat}{Q:Nat→Pt.Pn}{t:TypeId}(h:w.heap[b]?=some (.cells (Pt.f3 Q).toArray t (0,0))){j:Nat}(hj:j < 3):w.rangeAt b (j * 34) (Pt.pV (Q j)):=fun r v hv=>by
 rw[cell_of_row w b _ _ _ _ h]
 have:=Pt.f3_at Q hj hv
 rw[show j * 34+r=34 * j+r by omega]
 simpa using this
theorem idx_none{w:World}{V:Pl}{n k:Nat}{X:Dst}{M:Tab}{A B Z:Int}{f:Nat→Int}(h:HasVol w V n X M A B Z k f)(hm:TabOk M)(hB:Sp.i64 B)(Q:Nat→Pt.Pn)(hQ:∀i,i < 3→Sp.i64 (Q i).A∧Sp.i64 (Q i).B∧mn n X M A B Z k f (Q i)=true){vb b8:Nat}(hvb:w.cell? ⟨vb,0,none⟩=some (.pointer (some ⟨V.b,V.o,none⟩)))
  (h8:w.heap[b8]?=some (.cells (Pt.f3 Q).toArray 83 (0,0))) :
  Calls Tryz.prog 101 #[.slice (some ⟨b8,0,none⟩) 3 3,.func (.func 74) #[] #[.pointer (some ⟨vb,0,none⟩)]] w fun e w'=>e=.returned (.int .i64 (-1))∧Below w.heap.size w w':=by
 have hlt:=World.block_lt_of_cell? w _ hvb
 have hlt8:=(Array.getElem?_eq_some_iff.1 h8).1
 have HF:=Lib.hid (fun w' (hb:Below w.heap.size w w') (i:Nat) (hi:i < 3)=>foreign_any (h.below hb) hm hB (Q i) (hQ i hi).1 (hQ i hi).2.1 ((hb.cell (p:=⟨vb,0,none⟩) hlt).trans hvb))
 have HQ:=Lib.hid (fun i hi=>(hQ i hi).2.2)
 have H8:=Lib.hid (fun w' (hb:Below w.heap.size w w') (i:Nat) (hi:i < 3)=>f3_row ((hb.block b8 hlt8).trans h8) hi)
 clear h hm hB hQ hvb h8
 go_enter Tryz.func101,Tryz.ntmps101
 go_wp2_with fail
 go_loopw [8] (fun i wr=>∃j:Nat,j≤3∧i=.int .i64 j∧Hid (Below w.heap.size w wr)) (fun i _=>3 - (intOf i).toNat)
 case atStart=>exact⟨0,by omega,rfl,Lib.hid (Below.refl _ _)⟩
 case round=>
  obtain⟨j,hj,rfl,hR⟩:=hrel
  by_cases hlt:j < 3
  ·have hr:=H8.out wr hR.out j hlt
   have HFj:=Lib.hid (HF.out wr hR.out j hlt)
   rw[HQ.out j hlt] at HFj
   have hj0:(0:Int)≤(j:Int):=by omega
   have hjn:(j:Int) < 3:=by omega
   go_wp2_with (refine wpList_load_mid rfl 24 (.tmp 14) rfl b8 (j * 34) rfl (Pt.pV (Q j)) _ (by exact hr) Pt.undP rfl (Pt.sizeP (Q j)) ?_; simp only[Act.put,aA])
   refine HFj.out.mono ?_
   rintro _ w2 ⟨rfl,hb2⟩
   have HB2:=Lib.hid (hR.out.trans (hb2.mono hR.out.size))
   clear hr hb2 hR HFj
   dsimp only
   go_wp2_with fail
   go_roundw
   case rel=>exact⟨j+1,by omega,by go_num,HB2⟩
   case measure=>simp[intOf]; omega
  ·obtain rfl:j=3:=by omega
   have hB:=hR.out
   clear hR
   go_wp2_with fail
   go_ret
   exact⟨rfl,hB⟩
theorem contains_none{w:World}{V:Pl}{n k:Nat}{X:Dst}{M:Tab}{A B Z:Int}{f:Nat→Int}(h:HasVol w V n X M A B Z k f)(hm:TabOk M)(hB:Sp.i64 B)(Q:Nat→Pt.Pn)(hQ:∀i,i < 3→Sp.i64 (Q i).A∧Sp.i64 (Q i).B∧mn n X M A B Z k f (Q i)=true){vb b8:Nat}(hvb:w.cell? ⟨vb,0,none⟩=some (.pointer (some ⟨V.b,V.o,none⟩)))
  (h8:w.heap[b8]?=some (.cells (Pt.f3 Q).toArray 83 (0,0))) :
  Calls Tryz.prog 75 #[.slice (some ⟨b8,0,none⟩) 3 3,.func (.func 74) #[] #[.pointer (some ⟨vb,0,none⟩)]] w fun e w'=>e=.returned (.bool false)∧Below w.heap.size w w':=by
 have HI:=Lib.hid (idx_none h hm hB Q hQ hvb h8)
 clear h hm hB hQ hvb h8
 go_enter Tryz.func75,Tryz.ntmps75
 go_wp2_with fail
 refine HI.out.mono ?_
 rintro _ w2 ⟨rfl,hb2⟩
 dsimp only
 go_wp2_with fail
 go_ret
 exact⟨rfl,hb2⟩
end St
namespace Pt
open Go.RowKit Dk Eqb Byt
theorem eq_ptd(d:Nat)(p q:Pn)(w:World):(Op.equalIn (d+3) 24 (.agg (pV p).toArray) (.agg (pV q).toArray)).run Tryz.prog w=.ok (eqP p q) w:=by
 rw[run_equalIn_struct w (d+2) 24 _ _ (by kernel_rfl) (by kernel_rfl)]
 obtain ⟨f0, f1, f2, hf, t0, o0, n0, t1, o1, n1, t2, o2, n2⟩ : ∃ f0 f1 f2 : Field, (Tryz.prog.fieldsOf 24).toList = [f0, f1, f2] ∧ f0.type = 3 ∧ f0.offset = 0 ∧ (f0.name ≠ "_") ∧ f1.type = 3 ∧ f1.offset = 1 ∧ (f1.name ≠ "_") ∧ f2.type = 22 ∧ f2.offset = 2 ∧ (f2.name ≠ "_") := ⟨_, _, _, rfl, rfl, rfl, by decide, rfl, rfl, by decide, rfl, rfl, by decide⟩
 rw[hf]
 unfold eqP
 simp only[Op.eqFields,Sem.run_bind,Sem.run_ite,if_pos n0,if_pos n1,if_pos n2,t0,o0,t1,o1,t2,o2]
 rw[part_i (pV p).toArray 0 p.A rfl w,Result.andThen_ok,part_i (pV q).toArray 0 q.A rfl w,Result.andThen_ok,run_equalIn_int w (d+1) _ .i64 .i64 _ _ (by kernel_rfl),Result.andThen_ok]
 cases h0:p.A == q.A with
 | false=>simp
 | true=>
  simp only[Bool.not_true,Bool.false_eq_true,if_false,Bool.true_and]
  rw[part_i (pV p).toArray 1 p.B rfl w,Result.andThen_ok,part_i (pV q).toArray 1 q.B rfl w,Result.andThen_ok,run_equalIn_int w (d+1) _ .i64 .i64 _ _ (by kernel_rfl),Result.andThen_ok]
  cases h1:p.B == q.B with
  | false=>simp
  | true=>
   simp only[Bool.not_true,Bool.false_eq_true,if_false,Bool.true_and]
   rw[part_sum p w,Result.andThen_ok,part_sum q w,Result.andThen_ok,eqD_sum d,Result.andThen_ok]
   cases h2:eqB 32 p.S q.S with
   | false=>simp
   | true=>simp
theorem part_pt(Q:Nat→Pn)(i:Nat)(hi:i < 3)(w:World):(part 24 (f3 Q).toArray (i * 34)).run Tryz.prog w=.ok (.agg (pV (Q i)).toArray) w:=by
 match i,hi with
 | 0,_=>
  show(part 24 (f3 Q).toArray 0).run Tryz.prog w=.ok (.agg (pV (Q 0)).toArray) w
  kernel_rfl
 | 1,_=>
  show(part 24 (f3 Q).toArray 34).run Tryz.prog w=.ok (.agg (pV (Q 1)).toArray) w
  kernel_rfl
 | 2,_=>
  show(part 24 (f3 Q).toArray 68).run Tryz.prog w=.ok (.agg (pV (Q 2)).toArray) w
  kernel_rfl
 | n+3,h=>omega
theorem eqItems_ptd(Q R:Nat→Pn)(d:Nat)(w:World):∀is:List Nat,(∀i ∈ is,i < 3)→(Op.eqItems (d+3) 24 34 (f3 Q).toArray (f3 R).toArray is).run Tryz.prog w=.ok (is.all fun i=>eqP (Q i) (R i)) w
 | [],_=>by simp[Op.eqItems]
 | i :: is,h=>by
  have ih:=eqItems_ptd Q R d w is fun j hj=>h j (by simp[hj])
  simp only[Op.eqItems,Sem.run_bind,part_pt Q i (h i (by simp)) w,part_pt R i (h i (by simp)) w,Result.andThen_ok,eq_ptd d (Q i) (R i) w]
  cases he:eqP (Q i) (R i) with
  | false=>simp[he]
  | true=>simp[he,ih]
def eq3(Q R:Nat→Pn):Bool:=eqP (Q 0) (R 0) && (eqP (Q 1) (R 1) && eqP (Q 2) (R 2))
theorem eq_3d(Q R:Nat→Pn)(w:World):(Op.equalIn 10000 83 (.agg (f3 Q).toArray) (.agg (f3 R).toArray)).run Tryz.prog w=.ok (eq3 Q R) w:=by
 obtain⟨i,hi⟩:∃i,Tryz.prog.info? 24=some i:=⟨_,rfl⟩
 rw[run_equalIn_array w 9999 (n:=3) (e:=24) _ _ (by kernel_rfl) hi,show Tryz.prog.cellsOf 24=34 by kernel_rfl]
 rw[eqItems_ptd Q R 9996 w _ fun i hi=>by simpa using hi]
 simp[eq3,List.range_succ]
theorem eq3_iff{Q R:Nat→Pn}:eq3 Q R=true↔∀i,i < 3→eqP (Q i) (R i)=true:=by
 unfold eq3
 simp only[Bool.and_eq_true]
 refine⟨fun h i hi=>?_,fun h=>⟨h 0 (by omega),h 1 (by omega),h 2 (by omega)⟩⟩
 match i,hi with
 | 0,_=>exact h.1
 | 1,_=>exact h.2.1
 | 2,_=>exact h.2.2
end Pt
end Go.Proofs.YteaocagepfgfnaaGreatDoor
