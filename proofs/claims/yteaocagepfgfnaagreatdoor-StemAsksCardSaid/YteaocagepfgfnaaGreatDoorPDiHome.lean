import Derived.Test.YteaocagepfgfnaaGreatDoorPJDiA
import Derived.Test.YteaocagepfgfnaaGreatDoorPAl
set_option maxRecDepth 100000
set_option maxHeartbeats 8000000
namespace Go.Proofs.YteaocagepfgfnaaGreatDoor
namespace Di
open Go.RowKit Dk Byt Eqb Rm
attribute [local irreducible] wpQuiet
theorem tab_cells{w:World}{b:Nat}{z:Int}{ao:Option Addr}{k c:Nat}(h:w.heap[b]?=some (.cells #[.int .i64 z,.slice ao k c] 37 (0,0))):w.cell? ⟨b,0,none⟩=some (.int .i64 z)∧w.cell? ⟨b,1,none⟩=some (.slice ao k c):=
 ⟨by rw[cell_of_row _ _ _ _ _ _ h]; rfl,by rw[cell_of_row _ _ _ _ _ _ h]; rfl⟩
theorem run_index2A(a b:Int)(W:World):(Instr.index 38 (.agg #[.int .i64 a,.int .i64 b]) (.int .i64 0)).run Tryz.prog W=.ok (.int .i64 a) W:=by kernel_rfl
theorem run_index2B(a b:Int)(W:World):(Instr.index 38 (.agg #[.int .i64 a,.int .i64 b]) (.int .i64 1)).run Tryz.prog W=.ok (.int .i64 b) W:=by kernel_rfl
theorem home_d{w:World}{v:Pl}{n:Nat}{X:Dst}(gen:Int)(k:Nat)(F T:Nat→Int)(hT:HasV w v n X ⟨gen,k,F,T⟩)(hm:TabOk ⟨gen,k,F,T⟩)(p:Pt.Pn) :
  Calls Tryz.prog 102 #[.pointer (some ⟨v.b,v.o,none⟩),.pointer (some ⟨v.b,v.o+4,none⟩),.agg (Pt.pV p).toArray] w fun e w'=>e=.returned (.bool (homB n X ⟨gen,k,F,T⟩ p))∧Below w.heap.size w w':=by
 obtain⟨pa,cap,h,hl,_⟩:=hT
 obtain⟨hk47,hF⟩:=hm
 dsimp only at h hl hk47 hF
 have hm0:=h.tab
 obtain⟨g,hg⟩:∃g,g=v.hd [.int .i64 gen,.slice pa k cap]:=⟨_,rfl⟩
 rw[←hg] at h
 have hgb:v.b=g.b:=by rw[hg]; rfl
 have hgo:v.o=g.o:=by rw[hg]; rfl
 rw[hgb] at hl
 rw[hgb,hgo] at hm0 ⊢
 generalize hmo:g.o+4=mo at *
 clear hg hmo hgb hgo
 have HD:=Lib.hid h
 obtain⟨sa,sc,ca,cc,hh⟩:=h
 have HH:=Lib.hid hh
 have hgl:=hh.bx.lt
 have h47:=hh.n47
 have HL:=Lib.hid hl
 have HM0:=Lib.hid hm0
 obtain⟨hb0,hx0,hs0⟩:=Pt.box_pt w p
 have HV:Hid (homB n X ⟨gen,k,F,T⟩ p=(formedB n X.m X.C && (Rm.rightB n gen k F T && (Pt.rightB p && ((p.A == -1 || lentB (halfN n) p.A) && (p.B == -1 || lentB (halfN n) p.B)))))):=Lib.hid rfl
 have HLE:Hid (∀x,formedB n X.m X.C=true→Rm.rightB n gen k F T=true→(tE n X ⟨gen,k,F,T⟩ x != 1)=lentB (halfN n) x):=Lib.hid (fun x h1 h2=>t_lent (M:=⟨gen,k,F,T⟩) h1 h2)
 have HFO:=Lib.hid (fun(W:World) (hc:Lay W W.heap.size g ca X.m cc 129 (fun i=>wrV (X.C i)))=>Formed_any sa ca n sc X.m cc g X.C X.f X.d W h47.1 h47.2 hc)
 have HRI:=Lib.hid (fun W hl=>Rm.right_any n gen k F T pa cap g W hl hk47 hF)
 have HPR:=Lib.hid (fun W=>Pt.right_any p W)
 have HLN:=Lib.hid (fun W (h:HasD W g n X) hl x=>lent_d h gen k F T pa cap g x hl hk47 hF)
 have HSE:=Lib.hid (fun W=>sectors_any p W)
 clear hl hh hF hm0
 generalize homB n X ⟨gen,k,F,T⟩ p=V at HV ⊢
 generalize formedB n X.m X.C=fo at HV HFO HLE
 generalize Rm.rightB n gen k F T=ri at HV HRI HLE
 generalize Pt.rightB p=pr at HV HPR
 go_enter Tryz.func102,Tryz.ntmps102
 go_wp2_with fail
 generalize w.alloc (.cells (Pt.pV p).toArray 24)=W at hb0 hx0 hs0 ⊢
 have HBX:=Lib.hid (fun w' (hw':Below W.heap.size W w')=>(HH.out.below (hb0.trans (hw'.mono hb0.size))))
 have HDW:=Lib.hid (fun w' (hw':Below W.heap.size W w')=>HD.out.below (hb0.trans (hw'.mono hb0.size)))
 have HLW:=Lib.hid (fun w' (hw':Below W.heap.size W w')=>(HL.out.below (hb0.trans (hw'.mono hb0.size))).more (hb0.trans (hw'.mono hb0.size)).size)
 have HTB:=Lib.hid (fun w' (hw':Below W.heap.size W w')=>show w'.cell? ⟨g.b,mo,none⟩=some (.int .i64 gen)∧w'.cell? ⟨g.b,mo+1,none⟩=some (.slice pa k cap) from⟨((hb0.trans (hw'.mono hb0.size)).cell (p:=⟨g.b,mo,none⟩) hgl).trans HM0.out.1,((hb0.trans (hw'.mono hb0.size)).cell (p:=⟨g.b,mo+1,none⟩) hgl).trans HM0.out.2.1⟩)
 have HX:=Lib.hid (fun w' (hw':Below W.heap.size W w')=>(hw'.block w.heap.size (by omega)).trans hx0)
 clear hx0 HH HD HL HM0
 refine wp_region_quiet (C:=fun w'=>Below W.heap.size W w') (by kernel_rfl) (by kernel_rfl) ⟨rfl,rfl,rfl,Nat.le_refl _,fun _ _=>rfl⟩ ?_
 cases fo with
 | false=>
  refine q_move _ rfl rfl ?_
  simp only[Act.put,aA]
  refine q_val (.bool false) rfl (fun w' hw'=>by go_simp) ?_
  simp only[Act.put,aA]
  refine q_move _ rfl rfl ?_
  simp only[Act.put,aA]
  refine q_move _ rfl (by kernel_rfl) ?_
  simp only[Act.put,aA]
  refine q_val (.bool false) (by kernel_rfl) (fun w' hw'=>by go_simp) ?_
  simp only[Act.put,aA]
  refine q_val (.bool false) rfl (fun w' hw'=>by go_simp) ?_
  simp only[Act.put,aA]
  refine q_move _ rfl rfl ?_
  simp only[Act.put,aA]
  refine q_move _ rfl (by kernel_rfl) ?_
  simp only[Act.put,aA]
  refine q_val (.pointer (some ⟨g.b,g.o,none⟩)) (by kernel_rfl) (fun w' hw'=>by go_simp) ?_
  simp only[Act.put,aA]
  refine q_val (.agg #[.slice sa n sc,.slice ca X.m cc,.int .i64 X.f,.bool X.d]) (by kernel_rfl) (fun w' hw'=>by have hH:=(HBX.out w' hw').bx; have k0:=hH.c0; have k1:=hH.c1; have k2:=hH.c2; have k3:=hH.c3; clear hH; go_simp) ?_
  simp only[Act.put,aA]
  refine q_call 115 _ (.bool false) (by kernel_rfl) (fun w'=>by go_simp) (fun w' hw'=>(HFO.out w' (HBX.out w' hw').cs).mono fun e w'' ⟨he,hb⟩=>⟨he,hw'.trans (hb.mono hw'.size)⟩) ?_
  simp only[Act.put,aA]
  refine q_val (.bool true) (by kernel_rfl) (fun w' hw'=>by go_simp) ?_
  simp only[Act.put,aA]
  refine q_val (.bool true) rfl (fun w' hw'=>by go_simp) ?_
  simp only[Act.put,aA]
  refine q_move _ rfl rfl ?_
  simp only[Act.put,aA]
  refine BigFrame.wpQuiet_skip (by kernel_rfl) ?_
  simp only[Act.put,aA]
  refine BigFrame.wpQuiet_skip (by kernel_rfl) ?_
  simp only[Act.put,aA]
  refine BigFrame.wpQuiet_skip (by kernel_rfl) ?_
  simp only[Act.put,aA]
  refine BigFrame.wpQuiet_skip (by kernel_rfl) ?_
  simp only[Act.put,aA]
  refine BigFrame.wpQuiet_skip (by kernel_rfl) ?_
  simp only[Act.put,aA]
  refine BigFrame.wpQuiet_skip (by kernel_rfl) ?_
  simp only[Act.put,aA]
  refine BigFrame.wpQuiet_skip (by kernel_rfl) ?_
  simp only[Act.put,aA]
  refine BigFrame.wpQuiet_skip (by kernel_rfl) ?_
  simp only[Act.put,aA]
  refine BigFrame.wpQuiet_skip (by kernel_rfl) ?_
  simp only[Act.put,aA]
  refine BigFrame.wpQuiet_skip (by kernel_rfl) ?_
  simp only[Act.put,aA]
  refine q_val (.bool true) rfl (fun w' hw'=>by go_simp) ?_
  simp only[Act.put,aA]
  refine q_move _ rfl rfl ?_
  simp only[Act.put,aA]
  refine BigFrame.wpQuiet_skip (by kernel_rfl) ?_
  simp only[Act.put,aA]
  refine BigFrame.wpQuiet_skip (by kernel_rfl) ?_
  simp only[Act.put,aA]
  refine BigFrame.wpQuiet_skip (by kernel_rfl) ?_
  simp only[Act.put,aA]
  refine q_val (.bool true) rfl (fun w' hw'=>by go_simp) ?_
  simp only[Act.put,aA]
  refine wpQuiet_nil ?_
  intro w' hw'
  go_wp2_with fail
  go_ret
  exact⟨by rw[HV.out]; try rfl,hb0.trans (hw'.mono hb0.size)⟩
 | true=>
  cases ri with
  | false=>
   refine q_move _ rfl rfl ?_
   simp only[Act.put,aA]
   refine q_val (.bool false) rfl (fun w' hw'=>by go_simp) ?_
   simp only[Act.put,aA]
   refine q_move _ rfl rfl ?_
   simp only[Act.put,aA]
   refine q_move _ rfl (by kernel_rfl) ?_
   simp only[Act.put,aA]
   refine q_val (.bool false) (by kernel_rfl) (fun w' hw'=>by go_simp) ?_
   simp only[Act.put,aA]
   refine q_val (.bool false) rfl (fun w' hw'=>by go_simp) ?_
   simp only[Act.put,aA]
   refine q_move _ rfl rfl ?_
   simp only[Act.put,aA]
   refine q_move _ rfl (by kernel_rfl) ?_
   simp only[Act.put,aA]
   refine q_val (.pointer (some ⟨g.b,g.o,none⟩)) (by kernel_rfl) (fun w' hw'=>by go_simp) ?_
   simp only[Act.put,aA]
   refine q_val (.agg #[.slice sa n sc,.slice ca X.m cc,.int .i64 X.f,.bool X.d]) (by kernel_rfl) (fun w' hw'=>by have hH:=(HBX.out w' hw').bx; have k0:=hH.c0; have k1:=hH.c1; have k2:=hH.c2; have k3:=hH.c3; clear hH; go_simp) ?_
   simp only[Act.put,aA]
   refine q_call 115 _ (.bool true) (by kernel_rfl) (fun w'=>by go_simp) (fun w' hw'=>(HFO.out w' (HBX.out w' hw').cs).mono fun e w'' ⟨he,hb⟩=>⟨he,hw'.trans (hb.mono hw'.size)⟩) ?_
   simp only[Act.put,aA]
   refine q_val (.bool false) (by kernel_rfl) (fun w' hw'=>by go_simp) ?_
   simp only[Act.put,aA]
   refine q_val (.bool false) rfl (fun w' hw'=>by go_simp) ?_
   simp only[Act.put,aA]
   refine q_move _ rfl rfl ?_
   simp only[Act.put,aA]
   refine q_move _ rfl (by kernel_rfl) ?_
   simp only[Act.put,aA]
   refine q_val (.pointer (some ⟨g.b,mo,none⟩)) (by kernel_rfl) (fun w' hw'=>by go_simp) ?_
   simp only[Act.put,aA]
   refine q_val (.agg #[.int .i64 gen,.slice pa k cap]) (by kernel_rfl) (fun w' hw'=>by obtain⟨k0,k1⟩:=HTB.out w' hw'; go_simp) ?_
   simp only[Act.put,aA]
   refine q_move _ rfl (by kernel_rfl) ?_
   simp only[Act.put,aA]
   refine q_val (.pointer (some ⟨g.b,g.o,none⟩)) (by kernel_rfl) (fun w' hw'=>by go_simp) ?_
   simp only[Act.put,aA]
   refine q_val (.pointer (some ⟨g.b,g.o,none⟩)) (by kernel_rfl) (fun w' hw'=>by go_simp) ?_
   simp only[Act.put,aA]
   refine q_val (.slice sa n sc) (by kernel_rfl) (fun w' hw'=>by have k0:=(HBX.out w' hw').bx.c0; go_simp) ?_
   simp only[Act.put,aA]
   refine q_val (.int .i64 n) (by kernel_rfl) (fun w' hw'=>by go_simp) ?_
   simp only[Act.put,aA]
   refine q_call 117 _ (.bool false) (by kernel_rfl) (fun w'=>by go_simp) (fun w' hw'=>(HRI.out w' (HLW.out w' hw')).mono fun e w'' ⟨he,hb⟩=>⟨he,hw'.trans (hb.mono hw'.size)⟩) ?_
   simp only[Act.put,aA]
   refine q_val (.bool true) (by kernel_rfl) (fun w' hw'=>by go_simp) ?_
   simp only[Act.put,aA]
   refine q_val (.bool true) rfl (fun w' hw'=>by go_simp) ?_
   simp only[Act.put,aA]
   refine q_move _ rfl rfl ?_
   simp only[Act.put,aA]
   refine BigFrame.wpQuiet_skip (by kernel_rfl) ?_
   simp only[Act.put,aA]
   refine BigFrame.wpQuiet_skip (by kernel_rfl) ?_
   simp only[Act.put,aA]
   refine BigFrame.wpQuiet_skip (by kernel_rfl) ?_
   simp only[Act.put,aA]
   refine q_val (.bool true) rfl (fun w' hw'=>by go_simp) ?_
   simp only[Act.put,aA]
   refine wpQuiet_nil ?_
   intro w' hw'
   go_wp2_with fail
   go_ret
   exact⟨by rw[HV.out]; try rfl,hb0.trans (hw'.mono hb0.size)⟩
  | true=>
   cases pr with
   | false=>
    refine q_move _ rfl rfl ?_
    simp only[Act.put,aA]
    refine q_val (.bool false) rfl (fun w' hw'=>by go_simp) ?_
    simp only[Act.put,aA]
    refine q_move _ rfl rfl ?_
    simp only[Act.put,aA]
    refine q_move _ rfl (by kernel_rfl) ?_
    simp only[Act.put,aA]
    refine q_val (.bool false) (by kernel_rfl) (fun w' hw'=>by go_simp) ?_
    simp only[Act.put,aA]
    refine q_val (.bool false) rfl (fun w' hw'=>by go_simp) ?_
    simp only[Act.put,aA]
    refine q_move _ rfl rfl ?_
    simp only[Act.put,aA]
    refine q_move _ rfl (by kernel_rfl) ?_
    simp only[Act.put,aA]
    refine q_val (.pointer (some ⟨g.b,g.o,none⟩)) (by kernel_rfl) (fun w' hw'=>by go_simp) ?_
    simp only[Act.put,aA]
    refine q_val (.agg #[.slice sa n sc,.slice ca X.m cc,.int .i64 X.f,.bool X.d]) (by kernel_rfl) (fun w' hw'=>by have hH:=(HBX.out w' hw').bx; have k0:=hH.c0; have k1:=hH.c1; have k2:=hH.c2; have k3:=hH.c3; clear hH; go_simp) ?_
    simp only[Act.put,aA]
    refine q_call 115 _ (.bool true) (by kernel_rfl) (fun w'=>by go_simp) (fun w' hw'=>(HFO.out w' (HBX.out w' hw').cs).mono fun e w'' ⟨he,hb⟩=>⟨he,hw'.trans (hb.mono hw'.size)⟩) ?_
    simp only[Act.put,aA]
    refine q_val (.bool false) (by kernel_rfl) (fun w' hw'=>by go_simp) ?_
    simp only[Act.put,aA]
    refine q_val (.bool false) rfl (fun w' hw'=>by go_simp) ?_
    simp only[Act.put,aA]
    refine q_move _ rfl rfl ?_
    simp only[Act.put,aA]
    refine q_move _ rfl (by kernel_rfl) ?_
    simp only[Act.put,aA]
    refine q_val (.pointer (some ⟨g.b,mo,none⟩)) (by kernel_rfl) (fun w' hw'=>by go_simp) ?_
    simp only[Act.put,aA]
    refine q_val (.agg #[.int .i64 gen,.slice pa k cap]) (by kernel_rfl) (fun w' hw'=>by obtain⟨k0,k1⟩:=HTB.out w' hw'; go_simp) ?_
    simp only[Act.put,aA]
    refine q_move _ rfl (by kernel_rfl) ?_
    simp only[Act.put,aA]
    refine q_val (.pointer (some ⟨g.b,g.o,none⟩)) (by kernel_rfl) (fun w' hw'=>by go_simp) ?_
    simp only[Act.put,aA]
    refine q_val (.pointer (some ⟨g.b,g.o,none⟩)) (by kernel_rfl) (fun w' hw'=>by go_simp) ?_
    simp only[Act.put,aA]
    refine q_val (.slice sa n sc) (by kernel_rfl) (fun w' hw'=>by have k0:=(HBX.out w' hw').bx.c0; go_simp) ?_
    simp only[Act.put,aA]
    refine q_val (.int .i64 n) (by kernel_rfl) (fun w' hw'=>by go_simp) ?_
    simp only[Act.put,aA]
    refine q_call 117 _ (.bool true) (by kernel_rfl) (fun w'=>by go_simp) (fun w' hw'=>(HRI.out w' (HLW.out w' hw')).mono fun e w'' ⟨he,hb⟩=>⟨he,hw'.trans (hb.mono hw'.size)⟩) ?_
    simp only[Act.put,aA]
    refine q_val (.bool false) (by kernel_rfl) (fun w' hw'=>by go_simp) ?_
    simp only[Act.put,aA]
    refine q_val (.bool false) rfl (fun w' hw'=>by go_simp) ?_
    simp only[Act.put,aA]
    refine q_move _ rfl rfl ?_
    simp only[Act.put,aA]
    refine q_loadB 24 (.tmp 5) rfl (by kernel_rfl) w.heap.size 0 rfl (Pt.pV p) _ (fun w' hw'=>Pt.rP (HX.out w' hw')) Pt.undP rfl (Pt.sizeP p) ?_
    simp only[Act.put,aA]
    refine q_call 25 _ (.bool false) (by kernel_rfl) (fun w'=>by go_simp) (fun w' hw'=>(HPR.out w').mono fun e w'' ⟨he,hb⟩=>⟨he,hw'.trans (hb.mono hw'.size)⟩) ?_
    simp only[Act.put,aA]
    refine q_val (.bool true) (by kernel_rfl) (fun w' hw'=>by go_simp) ?_
    simp only[Act.put,aA]
    refine q_val (.bool true) rfl (fun w' hw'=>by go_simp) ?_
    simp only[Act.put,aA]
    refine wpQuiet_nil ?_
    intro w' hw'
    go_wp2_with fail
    go_ret
    exact⟨by rw[HV.out]; try rfl,hb0.trans (hw'.mono hb0.size)⟩
   | true=>
    refine q_move _ rfl rfl ?_
    simp only[Act.put,aA]
    refine q_val (.bool false) rfl (fun w' hw'=>by go_simp) ?_
    simp only[Act.put,aA]
    refine q_move _ rfl rfl ?_
    simp only[Act.put,aA]
    refine q_move _ rfl (by kernel_rfl) ?_
    simp only[Act.put,aA]
    refine q_val (.bool false) (by kernel_rfl) (fun w' hw'=>by go_simp) ?_
    simp only[Act.put,aA]
    refine q_val (.bool false) rfl (fun w' hw'=>by go_simp) ?_
    simp only[Act.put,aA]
    refine q_move _ rfl rfl ?_
    simp only[Act.put,aA]
    refine q_move _ rfl (by kernel_rfl) ?_
    simp only[Act.put,aA]
    refine q_val (.pointer (some ⟨g.b,g.o,none⟩)) (by kernel_rfl) (fun w' hw'=>by go_simp) ?_
    simp only[Act.put,aA]
    refine q_val (.agg #[.slice sa n sc,.slice ca X.m cc,.int .i64 X.f,.bool X.d]) (by kernel_rfl) (fun w' hw'=>by have hH:=(HBX.out w' hw').bx; have k0:=hH.c0; have k1:=hH.c1; have k2:=hH.c2; have k3:=hH.c3; clear hH; go_simp) ?_
    simp only[Act.put,aA]
    refine q_call 115 _ (.bool true) (by kernel_rfl) (fun w'=>by go_simp) (fun w' hw'=>(HFO.out w' (HBX.out w' hw').cs).mono fun e w'' ⟨he,hb⟩=>⟨he,hw'.trans (hb.mono hw'.size)⟩) ?_
    simp only[Act.put,aA]
    refine q_val (.bool false) (by kernel_rfl) (fun w' hw'=>by go_simp) ?_
    simp only[Act.put,aA]
    refine q_val (.bool false) rfl (fun w' hw'=>by go_simp) ?_
    simp only[Act.put,aA]
    refine q_move _ rfl rfl ?_
    simp only[Act.put,aA]
    refine q_move _ rfl (by kernel_rfl) ?_
    simp only[Act.put,aA]
    refine q_val (.pointer (some ⟨g.b,mo,none⟩)) (by kernel_rfl) (fun w' hw'=>by go_simp) ?_
    simp only[Act.put,aA]
    refine q_val (.agg #[.int .i64 gen,.slice pa k cap]) (by kernel_rfl) (fun w' hw'=>by obtain⟨k0,k1⟩:=HTB.out w' hw'; go_simp) ?_
    simp only[Act.put,aA]
    refine q_move _ rfl (by kernel_rfl) ?_
    simp only[Act.put,aA]
    refine q_val (.pointer (some ⟨g.b,g.o,none⟩)) (by kernel_rfl) (fun w' hw'=>by go_simp) ?_
    simp only[Act.put,aA]
    refine q_val (.pointer (some ⟨g.b,g.o,none⟩)) (by kernel_rfl) (fun w' hw'=>by go_simp) ?_
    simp only[Act.put,aA]
    refine q_val (.slice sa n sc) (by kernel_rfl) (fun w' hw'=>by have k0:=(HBX.out w' hw').bx.c0; go_simp) ?_
    simp only[Act.put,aA]
    refine q_val (.int .i64 n) (by kernel_rfl) (fun w' hw'=>by go_simp) ?_
    simp only[Act.put,aA]
    refine q_call 117 _ (.bool true) (by kernel_rfl) (fun w'=>by go_simp) (fun w' hw'=>(HRI.out w' (HLW.out w' hw')).mono fun e w'' ⟨he,hb⟩=>⟨he,hw'.trans (hb.mono hw'.size)⟩) ?_
    simp only[Act.put,aA]
    refine q_val (.bool false) (by kernel_rfl) (fun w' hw'=>by go_simp) ?_
    simp only[Act.put,aA]
    refine q_val (.bool false) rfl (fun w' hw'=>by go_simp) ?_
    simp only[Act.put,aA]
    refine q_move _ rfl rfl ?_
    simp only[Act.put,aA]
    refine q_loadB 24 (.tmp 5) rfl (by kernel_rfl) w.heap.size 0 rfl (Pt.pV p) _ (fun w' hw'=>Pt.rP (HX.out w' hw')) Pt.undP rfl (Pt.sizeP p) ?_
    simp only[Act.put,aA]
    refine q_call 25 _ (.bool true) (by kernel_rfl) (fun w'=>by go_simp) (fun w' hw'=>(HPR.out w').mono fun e w'' ⟨he,hb⟩=>⟨he,hw'.trans (hb.mono hw'.size)⟩) ?_
    simp only[Act.put,aA]
    refine q_val (.bool false) (by kernel_rfl) (fun w' hw'=>by go_simp) ?_
    simp only[Act.put,aA]
    refine q_val (.bool false) rfl (fun w' hw'=>by go_simp) ?_
    simp only[Act.put,aA]
    refine wpQuiet_nil ?_
    intro w1 hw1
    have hB1:=hb0.trans (hw1.mono hb0.size)
    replace HLE:=Lib.hid (fun x=>HLE.out x rfl rfl)
    replace HV:Hid (V=((p.A == -1 || lentB (halfN n) p.A) && (p.B == -1 || lentB (halfN n) p.B))):=Lib.hid (by rw[HV.out]; rfl)
    have q1:=Pt.rP (HX.out w1 hw1)
    go_wp2_with (refine @wG _ _ _ _ _ _ _ (by kernel_rfl) 24 (.tmp 5) rfl w.heap.size 0 rfl (Pt.pV p) _ q1 Pt.undP rfl (Pt.sizeP p) ?_; simp only[Act.put,aA])
    refine(HSE.out w1).mono ?_
    rintro _ w2 ⟨rfl,hb2⟩
    have hw2:=hw1.trans (hb2.mono hw1.size)
    clear q1 hb2 HFO HRI HPR HSE HX hB1
    dsimp only
    go_wp2_with fail
    go_loopw [41] (fun i wr=>∃c:Nat,c≤2∧i=.int .i64 c∧Hid (Below W.heap.size W wr∧(0 < c→(p.A == -1 || lentB (halfN n) p.A)=true)∧(1 < c→(p.B == -1 || lentB (halfN n) p.B)=true))) (fun i _=>2 - (intOf i).toNat)
    case atStart=>exact⟨0,by omega,rfl,Lib.hid ⟨hw2,fun h=>by omega,fun h=>by omega⟩⟩
    case round=>
     obtain⟨c,hc,rfl,hR⟩:=hrel
     have hw:=hR.out.1
     have hB:=hb0.trans (hw.mono hb0.size)
     have hD:=HDW.out wr hw
     obtain⟨k0,k1⟩:=HTB.out wr hw
     have HN:=Lib.hid (fun x=>HLN.out wr hD (HLW.out wr hw) x)
     clear hD
     match c,hc with
     | 0,_=>
      have hix:=run_index2A p.A p.B
      by_cases eA:p.A = -1
      ·have e':(p.A != -1)=false:=by simpa using eA
       have hy:Hid ((p.A == -1 || lentB (halfN n) p.A)=true):=Lib.hid (by rw[eA]; rfl)
       clear eA
       go_wp2_with fail
       go_roundw
       case rel=>exact⟨1,by omega,rfl,Lib.hid ⟨hw,fun _=>hy.out,fun h=>by omega⟩⟩
       case measure=>simp[intOf]
      ·have e':(p.A != -1)=true:=by simpa using eA
       have HNx:=Lib.hid (HN.out p.A)
       have HLx:=Lib.hid (HLE.out p.A)
       generalize (tE n X ⟨gen,k,F,T⟩ p.A != 1)=tb at HNx HLx
       go_wp2_with fail
       refine HNx.out.mono ?_
       rintro _ w3 ⟨rfl,hb3⟩
       have hw3:=hw.trans (hb3.mono hw.size)
       dsimp only
       cases tb with
       | false=>
        have hv:Hid (V=false):=Lib.hid (by rw[HV.out,←HLx.out,show(p.A == -1)=false by simpa using eA]; rfl)
        go_wp2_with fail
        go_ret
        exact⟨by rw[hv.out]; rfl,hb0.trans (hw3.mono hb0.size)⟩
       | true=>
        have hy:Hid ((p.A == -1 || lentB (halfN n) p.A)=true):=Lib.hid (by rw[←HLx.out,Bool.or_true])
        go_wp2_with fail
        go_roundw
        case rel=>exact⟨1,by omega,rfl,Lib.hid ⟨hw3,fun _=>hy.out,fun h=>by omega⟩⟩
        case measure=>simp[intOf]
     | 1,_=>
      have hix:=run_index2B p.A p.B
      by_cases eB:p.B = -1
      ·have e':(p.B != -1)=false:=by simpa using eB
       have hy:Hid ((p.B == -1 || lentB (halfN n) p.B)=true):=Lib.hid (by rw[eB]; rfl)
       clear eB
       go_wp2_with fail
       go_roundw
       case rel=>exact⟨2,by omega,rfl,Lib.hid ⟨hw,fun _=>hR.out.2.1 (by omega),fun _=>hy.out⟩⟩
       case measure=>simp[intOf]
      ·have e':(p.B != -1)=true:=by simpa using eB
       have HNx:=Lib.hid (HN.out p.B)
       have HLx:=Lib.hid (HLE.out p.B)
       generalize (tE n X ⟨gen,k,F,T⟩ p.B != 1)=tb at HNx HLx
       go_wp2_with fail
       refine HNx.out.mono ?_
       rintro _ w3 ⟨rfl,hb3⟩
       have hw3:=hw.trans (hb3.mono hw.size)
       dsimp only
       cases tb with
       | false=>
        have hv:Hid (V=false):=Lib.hid (by rw[HV.out,hR.out.2.1 (by omega),←HLx.out,show(p.B == -1)=false by simpa using eB]; rfl)
        go_wp2_with fail
        go_ret
        exact⟨by rw[hv.out]; rfl,hb0.trans (hw3.mono hb0.size)⟩
       | true=>
        have hy:Hid ((p.B == -1 || lentB (halfN n) p.B)=true):=Lib.hid (by rw[←HLx.out,Bool.or_true])
        go_wp2_with fail
        go_roundw
        case rel=>exact⟨2,by omega,rfl,Lib.hid ⟨hw3,fun _=>hR.out.2.1 (by omega),fun _=>hy.out⟩⟩
        case measure=>simp[intOf]
     | 2,_=>
      have hv:Hid (V=true):=Lib.hid (by rw[HV.out,hR.out.2.1 (by omega),hR.out.2.2 (by omega)]; rfl)
      go_wp2_with fail
      go_ret
      exact⟨by rw[hv.out]; rfl,hB⟩
     | c+3,h=>omega
end Di
end Go.Proofs.YteaocagepfgfnaaGreatDoor
