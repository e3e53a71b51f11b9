import Derived.Test.YteaocagepfgfnaaGreatDoorPGmQuo
import Derived.Test.YteaocagepfgfnaaGreatDoorPJRb
import Derived.Test.YteaocagepfgfnaaGreatDoorPAl
set_option maxRecDepth 100000
set_option maxHeartbeats 8000000
namespace Go.Proofs.YteaocagepfgfnaaGreatDoor
namespace Vl
open Go.RowKit Dk Gm Eqb
attribute [local irreducible] wpQuiet
def Vb(w:World)(b:Nat)(v0 v1 v2 v3 v4 v5 v6 v7 v8 v9:Value):Prop:=w.heap[b]?=some (.cells #[v0,v1,v2,v3,v4,v5,v6,v7,v8,v9] 43 (0,0))
section
variable {w w':World}{b:Nat}{v0 v1 v2 v3 v4 v5 v6 v7 v8 v9:Value}
theorem Vb.c0(h:Vb w b v0 v1 v2 v3 v4 v5 v6 v7 v8 v9):w.cell? ⟨b,0,none⟩=some v0:=by rw[cell_of_row w b 0 _ _ _ h]; rfl
theorem Vb.c1(h:Vb w b v0 v1 v2 v3 v4 v5 v6 v7 v8 v9):w.cell? ⟨b,1,none⟩=some v1:=by rw[cell_of_row w b 1 _ _ _ h]; rfl
theorem Vb.c2(h:Vb w b v0 v1 v2 v3 v4 v5 v6 v7 v8 v9):w.cell? ⟨b,2,none⟩=some v2:=by rw[cell_of_row w b 2 _ _ _ h]; rfl
theorem Vb.c3(h:Vb w b v0 v1 v2 v3 v4 v5 v6 v7 v8 v9):w.cell? ⟨b,3,none⟩=some v3:=by rw[cell_of_row w b 3 _ _ _ h]; rfl
theorem Vb.c4(h:Vb w b v0 v1 v2 v3 v4 v5 v6 v7 v8 v9):w.cell? ⟨b,4,none⟩=some v4:=by rw[cell_of_row w b 4 _ _ _ h]; rfl
theorem Vb.c5(h:Vb w b v0 v1 v2 v3 v4 v5 v6 v7 v8 v9):w.cell? ⟨b,5,none⟩=some v5:=by rw[cell_of_row w b 5 _ _ _ h]; rfl
theorem Vb.c6(h:Vb w b v0 v1 v2 v3 v4 v5 v6 v7 v8 v9):w.cell? ⟨b,6,none⟩=some v6:=by rw[cell_of_row w b 6 _ _ _ h]; rfl
theorem Vb.c7(h:Vb w b v0 v1 v2 v3 v4 v5 v6 v7 v8 v9):w.cell? ⟨b,7,none⟩=some v7:=by rw[cell_of_row w b 7 _ _ _ h]; rfl
theorem Vb.c8(h:Vb w b v0 v1 v2 v3 v4 v5 v6 v7 v8 v9):w.cell? ⟨b,8,none⟩=some v8:=by rw[cell_of_row w b 8 _ _ _ h]; rfl
theorem Vb.c9(h:Vb w b v0 v1 v2 v3 v4 v5 v6 v7 v8 v9):w.cell? ⟨b,9,none⟩=some v9:=by rw[cell_of_row w b 9 _ _ _ h]; rfl
theorem Vb.lt(h:Vb w b v0 v1 v2 v3 v4 v5 v6 v7 v8 v9):b < w.heap.size:=(Array.getElem?_eq_some_iff.1 h).1
theorem Vb.block(h:Vb w b v0 v1 v2 v3 v4 v5 v6 v7 v8 v9)(hb:w'.heap[b]?=w.heap[b]?):Vb w' b v0 v1 v2 v3 v4 v5 v6 v7 v8 v9:=hb.trans h
theorem Vb.below(h:Vb w b v0 v1 v2 v3 v4 v5 v6 v7 v8 v9){K:Nat}(hb:Below K w w')(hk:b < K):Vb w' b v0 v1 v2 v3 v4 v5 v6 v7 v8 v9:=h.block (hb.block b hk)
end
theorem box_v(w:World)(v0 v1 v2 v3 v4 v5 v6 v7 v8 v9:Value):∃W,W=w.alloc (.cells #[v0,v1,v2,v3,v4,v5,v6,v7,v8,v9] 43)∧Below w.heap.size w W∧W.heap.size=w.heap.size+1∧Vb W w.heap.size v0 v1 v2 v3 v4 v5 v6 v7 v8 v9:=
 ⟨_,rfl,(Below.refl _ _).alloc (Nat.le_refl _) _,by simp,heap_alloc_new w _⟩
theorem guard2:Tryz.prog.eqGuardType Tryz.prog.depth 38=false:=by kernel_rfl
def rvB(n m:Nat)(C:Nat→Wr)(gen:Int)(k:Nat)(F T:Nat→Int)(A B Z:Int)(kk:Nat)(f:Nat→Int):Bool:=
 lyB n m C && (Rm.rightB n gen k F T && (Sp.formB A B Z kk f && ((Z == 2 * fsq n+120) && ((A == 28) && (B == 2 * fsq n+176)))))
theorem pl_at{q:Int}(h:inQ q):pl (lay q) 4 0 0=28∧pl (lay q) 4 1 0=2 * q+176:=by
 have b0:atB q 4 0 0:=⟨.inl rfl,by omega,by unfold inQ at h; simp[cnt]; omega⟩
 have b1:atB q 4 1 0:=⟨.inr rfl,by omega,by unfold inQ at h; simp[cnt]; omega⟩
 rw[(pl_in h b0).1,(pl_in h b1).1]
 constructor
 ·simp[atI,off]
 ·simp[atI,off]; omega
theorem Right_any(sa:Option Addr)(n sc:Nat)(ca:Option Addr)(m cc:Nat)(fu:Int)(d:Bool)(gen:Int)(pa:Option Addr)(k cap:Nat)(A B Z:Int)(ao:Option Addr)(kk kc g:Nat)(C:Nat→Wr)(F T:Nat→Int)(f:Nat→Int)(w:World)
  (hn:n≤140737488355328) (hm:m≤140737488355328) (hc:Lay w w.heap.size g ca m cc 129 (fun i=>wrV (C i))) (hl:Lay w w.heap.size g pa k cap 2 (Rm.prV F T)) (hk:k≤140737488355328) (hF:∀i,i < k→Rm.i64 (F i)∧Rm.i64 (T i)) (hB:Sp.i64 B) (hs:Sp.St w w.heap.size ao kk kc f) :
  Calls Tryz.prog 97 #[.agg #[.slice sa n sc,.slice ca m cc,.int .i64 fu,.bool d,.int .i64 gen,.slice pa k cap,.int .i64 A,.int .i64 B,.int .i64 Z,.slice ao kk kc]] w fun e w'=>e=.returned (.bool (rvB n m C gen k F T A B Z kk f))∧Below w.heap.size w w':=by
 obtain⟨W,hW,hB0,hs0,hX0⟩:=box_v w (.slice sa n sc) (.slice ca m cc) (.int .i64 fu) (.bool d) (.int .i64 gen) (.slice pa k cap) (.int .i64 A) (.int .i64 B) (.int .i64 Z) (.slice ao kk kc)
 have HLY:=Lib.hid (layout_any sa ca n sc m cc g C fu d W hn hm ((hc.below hB0).more hB0.size))
 have HRI:=Lib.hid (fun w' (h:Below W.heap.size W w')=>Rm.right_any (4 * fsq n+316) gen k F T pa cap g w' ((hl.below (hB0.trans (h.mono hB0.size))).more (hB0.trans (h.mono hB0.size)).size) hk hF)
 have HFO:=Lib.hid (fun w' (h:Below W.heap.size W w')=>Sp.Formed_any A B Z ao kk kc f w' hB hs.room (hs.later (hB0.trans (h.mono hB0.size))).lies)
 have HV:Hid (rvB n m C gen k F T A B Z kk f=(lyB n m C && (Rm.rightB n gen k F T && (Sp.formB A B Z kk f && ((Z == 2 * fsq n+120) && ((A == 28) && (B == 2 * fsq n+176))))))):=Lib.hid rfl
 have HQ:Hid (lyB n m C=true→lyG n m C=lay (fsq n)∧inQ (fsq n)∧(n:Int)=4 * fsq n+316):=Lib.hid (fun h=>by
  unfold lyB at h
  simp only[Bool.and_eq_true] at h
  have hq:inQ (fsq n):=of_decide_eq_true h.2
  refine⟨by unfold lyG; rw[if_pos h.1,(geo_yes h.2).1],hq,?_⟩
  rcases fsq_cases (n:Int) with ⟨q,_,hnq,hf⟩ | ⟨hf,_⟩
  ·rw[hf]; exact hnq
  ·rw[hf] at hq; unfold inQ at hq; omega)
 clear hc hl hF hs
 generalize rvB n m C gen k F T A B Z kk f=V at HV ⊢
 generalize lyG n m C=G at HLY HQ
 generalize lyB n m C=ly at HLY HQ HV
 have c0:=hX0.c0
 have c1:=hX0.c1
 have c2:=hX0.c2
 have c3:=hX0.c3
 have HX:=Lib.hid hX0
 clear hX0
 obtain⟨g1,g2,g3,g4,g5,g6⟩:=G
 dsimp only [gA] at HLY
 go_enter Tryz.func97,Tryz.ntmps97
 go_wp2_with (rw[←hW])
 clear hW
 refine HLY.out.mono ?_
 rintro _ w1 ⟨rfl,hb1⟩
 have hs1:=hb1.size
 have HB:=Lib.hid (fun w' (h:Below w1.heap.size w1 w')=>hb1.trans (h.mono hb1.size))
 have HX1:=Lib.hid (HX.out.below hb1 (by omega))
 clear c0 c1 c2 c3 HX HLY
 dsimp only
 go_wp2_with fail
 generalize hW2:w1.alloc (.cells #[.int .i64 g1,.int .i64 g2,.int .i64 g3,.int .i64 g4,.int .i64 g5,.int .i64 g6] 69)=W2
 have hb2:Below w1.heap.size w1 W2:=by rw[←hW2]; exact(Below.refl _ _).alloc (Nat.le_refl _) _
 have hG2:Bg W2 w1.heap.size ⟨g1,g2,g3,g4,g5,g6⟩:=⟨by rw[←hW2]; exact heap_alloc_new w1 _⟩
 have hs2:W2.heap.size=w1.heap.size+1:=by rw[←hW2]; simp
 clear hW2
 have HW:=Lib.hid (fun w' (h:Below W2.heap.size W2 w')=>HB.out w' (hb2.trans (h.mono hb2.size)))
 have HBX:=Lib.hid (fun w' (h:Below W2.heap.size W2 w')=>HX1.out.below (hb2.trans (h.mono hb2.size)) (show w.heap.size < w1.heap.size by omega))
 have HGX:=Lib.hid (fun w' (h:Below W2.heap.size W2 w')=>hG2.below h (show w1.heap.size < W2.heap.size by omega))
 clear hG2 HX1 HB
 generalize w1.heap.size=bg at HGX ⊢
 refine wp_region_quiet (C:=fun w'=>Below W2.heap.size W2 w') (by kernel_rfl) (by kernel_rfl) ⟨rfl,rfl,rfl,Nat.le_refl _,fun _ _=>rfl⟩ ?_
 cases ly with
 | false=>
  refine q_move _ rfl rfl ?_
  simp only[Act.put,aA]
  refine q_move _ rfl rfl ?_
  simp only[Act.put,aA]
  refine BigFrame.wpQuiet_skip (by kernel_rfl) ?_
  simp only[Act.put,aA]
  refine BigFrame.wpQuiet_skip (by kernel_rfl) ?_
  simp only[Act.put,aA]
  refine BigFrame.wpQuiet_skip (by kernel_rfl) ?_
  simp only[Act.put,aA]
  refine BigFrame.wpQuiet_skip (by kernel_rfl) ?_
  simp only[Act.put,aA]
  refine BigFrame.wpQuiet_skip (by kernel_rfl) ?_
  simp only[Act.put,aA]
  refine q_val (.bool false) rfl (fun w' hw'=>by go_simp) ?_
  simp only[Act.put,aA]
  refine q_move _ rfl rfl ?_
  simp only[Act.put,aA]
  refine BigFrame.wpQuiet_skip (by kernel_rfl) ?_
  simp only[Act.put,aA]
  refine BigFrame.wpQuiet_skip (by kernel_rfl) ?_
  simp only[Act.put,aA]
  refine BigFrame.wpQuiet_skip (by kernel_rfl) ?_
  simp only[Act.put,aA]
  refine q_val (.bool false) rfl (fun w' hw'=>by go_simp) ?_
  simp only[Act.put,aA]
  refine q_move _ rfl rfl ?_
  simp only[Act.put,aA]
  refine BigFrame.wpQuiet_skip (by kernel_rfl) ?_
  simp only[Act.put,aA]
  refine BigFrame.wpQuiet_skip (by kernel_rfl) ?_
  simp only[Act.put,aA]
  refine BigFrame.wpQuiet_skip (by kernel_rfl) ?_
  simp only[Act.put,aA]
  refine BigFrame.wpQuiet_skip (by kernel_rfl) ?_
  simp only[Act.put,aA]
  refine BigFrame.wpQuiet_skip (by kernel_rfl) ?_
  simp only[Act.put,aA]
  refine BigFrame.wpQuiet_skip (by kernel_rfl) ?_
  simp only[Act.put,aA]
  refine q_val (.bool false) rfl (fun w' hw'=>by go_simp) ?_
  simp only[Act.put,aA]
  refine q_move _ rfl rfl ?_
  simp only[Act.put,aA]
  refine BigFrame.wpQuiet_skip (by kernel_rfl) ?_
  simp only[Act.put,aA]
  refine BigFrame.wpQuiet_skip (by kernel_rfl) ?_
  simp only[Act.put,aA]
  refine BigFrame.wpQuiet_skip (by kernel_rfl) ?_
  simp only[Act.put,aA]
  refine BigFrame.wpQuiet_skip (by kernel_rfl) ?_
  simp only[Act.put,aA]
  refine BigFrame.wpQuiet_skip (by kernel_rfl) ?_
  simp only[Act.put,aA]
  refine BigFrame.wpQuiet_skip (by kernel_rfl) ?_
  simp only[Act.put,aA]
  refine q_val (.bool false) rfl (fun w' hw'=>by go_simp) ?_
  simp only[Act.put,aA]
  refine q_val (.bool false) rfl (fun w' hw'=>by go_simp) ?_
  simp only[Act.put,aA]
  refine wpQuiet_nil ?_
  intro w3 hw3
  go_wp2_with fail
  go_ret
  exact⟨by rw[HV.out]; rfl,hB0.trans ((HW.out w3 hw3).mono hB0.size)⟩
 | true=>
  obtain⟨eg,hq,hn4⟩:=HQ.out rfl
  have HFI:=Lib.hid (fun w'=>firsts_any (lay (fsq n)) w' (by unfold inQ at hq; constructor <;> simp only[lay] <;> omega))
  rw[(pl_at hq).1,(pl_at hq).2] at HFI
  have HZ0:Hid (∀e:Bool,(Z == 2 * fsq n+120)=e→(Z == 2 * fsq n+120)=e):=Lib.hid (fun _ h=>h)
  have HA0:=Lib.hid (fun w'=>eq_two A B 28 (2 * fsq n+176) w')
  injection eg with e1 e2 e3 e4 e5 e6
  subst e1 e2 e3 e4 e5 e6
  rw[hn4] at HV
  have HS:Hid (fsq (4 * fsq n+316)=fsq n):=Lib.hid (by rw[←hn4])
  rw[HS.out] at HV
  unfold inQ at hq
  obtain⟨hq1,hq2⟩:=hq
  clear hn4 HQ HS
  dsimp only [gA,lay] at HFI
  generalize hQ:fsq (n:Int)=q at *
  clear hQ
  cases hri:Rm.rightB (4 * q+316) gen k F T with
  | false=>
   rw[hri] at HRI HV
   refine q_move _ rfl rfl ?_
   simp only[Act.put,aA]
   refine q_move _ rfl rfl ?_
   simp only[Act.put,aA]
   refine q_val (.pointer (some ⟨w.heap.size,4,none⟩)) (by kernel_rfl) (fun w' hw'=>by go_simp) ?_
   simp only[Act.put,aA]
   refine q_val (.agg #[.int .i64 gen,.slice pa k cap]) (by kernel_rfl) (fun w' hw'=>by have hv:=HBX.out w' hw'; have k4:=hv.c4; have k5:=hv.c5; clear hv; go_simp) ?_
   simp only[Act.put,aA]
   refine q_val (.pointer (some ⟨bg,0,none⟩)) (by kernel_rfl) (fun w' hw'=>by go_simp) ?_
   simp only[Act.put,aA]
   refine q_val (.int .i64 (4 * q+316)) (by kernel_rfl) (fun w' hw'=>by have hv:=HGX.out w' hw'; have k0:=hv.c0; clear hv; go_simp) ?_
   simp only[Act.put,aA]
   refine q_call 117 _ (.bool false) (by kernel_rfl) (fun w'=>by go_simp) (fun w' hw'=>(HRI.out w' (HW.out w' hw')).mono fun e w'' ⟨he,hb⟩=>⟨he,hw'.trans (hb.mono hw'.size)⟩) ?_
   simp only[Act.put,aA]
   refine q_val (.bool false) rfl (fun w' hw'=>by go_simp) ?_
   simp only[Act.put,aA]
   refine q_move _ rfl rfl ?_
   simp only[Act.put,aA]
   refine BigFrame.wpQuiet_skip (by kernel_rfl) ?_
   simp only[Act.put,aA]
   refine BigFrame.wpQuiet_skip (by kernel_rfl) ?_
   simp only[Act.put,aA]
   refine BigFrame.wpQuiet_skip (by kernel_rfl) ?_
   simp only[Act.put,aA]
   refine q_val (.bool false) rfl (fun w' hw'=>by go_simp) ?_
   simp only[Act.put,aA]
   refine q_move _ rfl rfl ?_
   simp only[Act.put,aA]
   refine BigFrame.wpQuiet_skip (by kernel_rfl) ?_
   simp only[Act.put,aA]
   refine BigFrame.wpQuiet_skip (by kernel_rfl) ?_
   simp only[Act.put,aA]
   refine BigFrame.wpQuiet_skip (by kernel_rfl) ?_
   simp only[Act.put,aA]
   refine BigFrame.wpQuiet_skip (by kernel_rfl) ?_
   simp only[Act.put,aA]
   refine BigFrame.wpQuiet_skip (by kernel_rfl) ?_
   simp only[Act.put,aA]
   refine BigFrame.wpQuiet_skip (by kernel_rfl) ?_
   simp only[Act.put,aA]
   refine q_val (.bool false) rfl (fun w' hw'=>by go_simp) ?_
   simp only[Act.put,aA]
   refine q_move _ rfl rfl ?_
   simp only[Act.put,aA]
   refine BigFrame.wpQuiet_skip (by kernel_rfl) ?_
   simp only[Act.put,aA]
   refine BigFrame.wpQuiet_skip (by kernel_rfl) ?_
   simp only[Act.put,aA]
   refine BigFrame.wpQuiet_skip (by kernel_rfl) ?_
   simp only[Act.put,aA]
   refine BigFrame.wpQuiet_skip (by kernel_rfl) ?_
   simp only[Act.put,aA]
   refine BigFrame.wpQuiet_skip (by kernel_rfl) ?_
   simp only[Act.put,aA]
   refine BigFrame.wpQuiet_skip (by kernel_rfl) ?_
   simp only[Act.put,aA]
   refine q_val (.bool false) rfl (fun w' hw'=>by go_simp) ?_
   simp only[Act.put,aA]
   refine q_val (.bool false) rfl (fun w' hw'=>by go_simp) ?_
   simp only[Act.put,aA]
   refine wpQuiet_nil ?_
   intro w3 hw3
   go_wp2_with fail
   go_ret
   exact⟨by rw[HV.out]; rfl,hB0.trans ((HW.out w3 hw3).mono hB0.size)⟩
  | true=>
   rw[hri] at HRI HV
   cases hfo:Sp.formB A B Z kk f with
   | false=>
    rw[hfo] at HFO HV
    refine q_move _ rfl rfl ?_
    simp only[Act.put,aA]
    refine q_move _ rfl rfl ?_
    simp only[Act.put,aA]
    refine q_val (.pointer (some ⟨w.heap.size,4,none⟩)) (by kernel_rfl) (fun w' hw'=>by go_simp) ?_
    simp only[Act.put,aA]
    refine q_val (.agg #[.int .i64 gen,.slice pa k cap]) (by kernel_rfl) (fun w' hw'=>by have hv:=HBX.out w' hw'; have k4:=hv.c4; have k5:=hv.c5; clear hv; go_simp) ?_
    simp only[Act.put,aA]
    refine q_val (.pointer (some ⟨bg,0,none⟩)) (by kernel_rfl) (fun w' hw'=>by go_simp) ?_
    simp only[Act.put,aA]
    refine q_val (.int .i64 (4 * q+316)) (by kernel_rfl) (fun w' hw'=>by have hv:=HGX.out w' hw'; have k0:=hv.c0; clear hv; go_simp) ?_
    simp only[Act.put,aA]
    refine q_call 117 _ (.bool true) (by kernel_rfl) (fun w'=>by go_simp) (fun w' hw'=>(HRI.out w' (HW.out w' hw')).mono fun e w'' ⟨he,hb⟩=>⟨he,hw'.trans (hb.mono hw'.size)⟩) ?_
    simp only[Act.put,aA]
    refine q_val (.bool true) rfl (fun w' hw'=>by go_simp) ?_
    simp only[Act.put,aA]
    refine q_move _ rfl rfl ?_
    simp only[Act.put,aA]
    refine q_val (.pointer (some ⟨w.heap.size,6,none⟩)) (by kernel_rfl) (fun w' hw'=>by go_simp) ?_
    simp only[Act.put,aA]
    refine q_val (.agg #[.int .i64 A,.int .i64 B,.int .i64 Z,.slice ao kk kc]) (by kernel_rfl) (fun w' hw'=>by have hv:=HBX.out w' hw'; have k6:=hv.c6; have k7:=hv.c7; have k8:=hv.c8; have k9:=hv.c9; clear hv; go_simp) ?_
    simp only[Act.put,aA]
    refine q_call 128 _ (.bool false) (by kernel_rfl) (fun w'=>by go_simp) (fun w' hw'=>(HFO.out w' (HW.out w' hw')).mono fun e w'' ⟨he,hb⟩=>⟨he,hw'.trans (hb.mono hw'.size)⟩) ?_
    simp only[Act.put,aA]
    refine q_val (.bool false) rfl (fun w' hw'=>by go_simp) ?_
    simp only[Act.put,aA]
    refine q_move _ rfl rfl ?_
    simp only[Act.put,aA]
    refine BigFrame.wpQuiet_skip (by kernel_rfl) ?_
    simp only[Act.put,aA]
    refine BigFrame.wpQuiet_skip (by kernel_rfl) ?_
    simp only[Act.put,aA]
    refine BigFrame.wpQuiet_skip (by kernel_rfl) ?_
    simp only[Act.put,aA]
    refine BigFrame.wpQuiet_skip (by kernel_rfl) ?_
    simp only[Act.put,aA]
    refine BigFrame.wpQuiet_skip (by kernel_rfl) ?_
    simp only[Act.put,aA]
    refine BigFrame.wpQuiet_skip (by kernel_rfl) ?_
    simp only[Act.put,aA]
    refine q_val (.bool false) rfl (fun w' hw'=>by go_simp) ?_
    simp only[Act.put,aA]
    refine q_move _ rfl rfl ?_
    simp only[Act.put,aA]
    refine BigFrame.wpQuiet_skip (by kernel_rfl) ?_
    simp only[Act.put,aA]
    refine BigFrame.wpQuiet_skip (by kernel_rfl) ?_
    simp only[Act.put,aA]
    refine BigFrame.wpQuiet_skip (by kernel_rfl) ?_
    simp only[Act.put,aA]
    refine BigFrame.wpQuiet_skip (by kernel_rfl) ?_
    simp only[Act.put,aA]
    refine BigFrame.wpQuiet_skip (by kernel_rfl) ?_
    simp only[Act.put,aA]
    refine BigFrame.wpQuiet_skip (by kernel_rfl) ?_
    simp only[Act.put,aA]
    refine q_val (.bool false) rfl (fun w' hw'=>by go_simp) ?_
    simp only[Act.put,aA]
    refine q_val (.bool false) rfl (fun w' hw'=>by go_simp) ?_
    simp only[Act.put,aA]
    refine wpQuiet_nil ?_
    intro w3 hw3
    go_wp2_with fail
    go_ret
    exact⟨by rw[HV.out]; rfl,hB0.trans ((HW.out w3 hw3).mono hB0.size)⟩
   | true=>
    rw[hfo] at HFO HV
    cases hez:Z == 2 * q+120 with
    | false=>
     have HZ:=Lib.hid hez
     rw[hez] at HV
     clear hez
     refine q_move _ rfl rfl ?_
     simp only[Act.put,aA]
     refine q_move _ rfl rfl ?_
     simp only[Act.put,aA]
     refine q_val (.pointer (some ⟨w.heap.size,4,none⟩)) (by kernel_rfl) (fun w' hw'=>by go_simp) ?_
     simp only[Act.put,aA]
     refine q_val (.agg #[.int .i64 gen,.slice pa k cap]) (by kernel_rfl) (fun w' hw'=>by have hv:=HBX.out w' hw'; have k4:=hv.c4; have k5:=hv.c5; clear hv; go_simp) ?_
     simp only[Act.put,aA]
     refine q_val (.pointer (some ⟨bg,0,none⟩)) (by kernel_rfl) (fun w' hw'=>by go_simp) ?_
     simp only[Act.put,aA]
     refine q_val (.int .i64 (4 * q+316)) (by kernel_rfl) (fun w' hw'=>by have hv:=HGX.out w' hw'; have k0:=hv.c0; clear hv; go_simp) ?_
     simp only[Act.put,aA]
     refine q_call 117 _ (.bool true) (by kernel_rfl) (fun w'=>by go_simp) (fun w' hw'=>(HRI.out w' (HW.out w' hw')).mono fun e w'' ⟨he,hb⟩=>⟨he,hw'.trans (hb.mono hw'.size)⟩) ?_
     simp only[Act.put,aA]
     refine q_val (.bool true) rfl (fun w' hw'=>by go_simp) ?_
     simp only[Act.put,aA]
     refine q_move _ rfl rfl ?_
     simp only[Act.put,aA]
     refine q_val (.pointer (some ⟨w.heap.size,6,none⟩)) (by kernel_rfl) (fun w' hw'=>by go_simp) ?_
     simp only[Act.put,aA]
     refine q_val (.agg #[.int .i64 A,.int .i64 B,.int .i64 Z,.slice ao kk kc]) (by kernel_rfl) (fun w' hw'=>by have hv:=HBX.out w' hw'; have k6:=hv.c6; have k7:=hv.c7; have k8:=hv.c8; have k9:=hv.c9; clear hv; go_simp) ?_
     simp only[Act.put,aA]
     refine q_call 128 _ (.bool true) (by kernel_rfl) (fun w'=>by go_simp) (fun w' hw'=>(HFO.out w' (HW.out w' hw')).mono fun e w'' ⟨he,hb⟩=>⟨he,hw'.trans (hb.mono hw'.size)⟩) ?_
     simp only[Act.put,aA]
     refine q_val (.bool true) rfl (fun w' hw'=>by go_simp) ?_
     simp only[Act.put,aA]
     refine q_move _ rfl rfl ?_
     simp only[Act.put,aA]
     refine q_val (.pointer (some ⟨w.heap.size,6,none⟩)) (by kernel_rfl) (fun w' hw'=>by go_simp) ?_
     simp only[Act.put,aA]
     refine q_val (.pointer (some ⟨w.heap.size,8,none⟩)) (by kernel_rfl) (fun w' hw'=>by go_simp) ?_
     simp only[Act.put,aA]
     refine q_val (.int .i64 Z) (by kernel_rfl) (fun w' hw'=>by have hv:=HBX.out w' hw'; have k8:=hv.c8; clear hv; go_simp) ?_
     simp only[Act.put,aA]
     refine q_val (.pointer (some ⟨bg,5,none⟩)) (by kernel_rfl) (fun w' hw'=>by go_simp) ?_
     simp only[Act.put,aA]
     refine q_val (.int .i64 (2 * q+120)) (by kernel_rfl) (fun w' hw'=>by have hv:=HGX.out w' hw'; have k5:=hv.c5; clear hv; go_simp) ?_
     simp only[Act.put,aA]
     refine q_val (.bool false) (by kernel_rfl) (fun w' hw'=>by have hz:=HZ.out; go_simp) ?_
     simp only[Act.put,aA]
     refine q_val (.bool false) rfl (fun w' hw'=>by go_simp) ?_
     simp only[Act.put,aA]
     refine q_move _ rfl rfl ?_
     simp only[Act.put,aA]
     refine BigFrame.wpQuiet_skip (by kernel_rfl) ?_
     simp only[Act.put,aA]
     refine BigFrame.wpQuiet_skip (by kernel_rfl) ?_
     simp only[Act.put,aA]
     refine BigFrame.wpQuiet_skip (by kernel_rfl) ?_
     simp only[Act.put,aA]
     refine BigFrame.wpQuiet_skip (by kernel_rfl) ?_
     simp only[Act.put,aA]
     refine BigFrame.wpQuiet_skip (by kernel_rfl) ?_
     simp only[Act.put,aA]
     refine BigFrame.wpQuiet_skip (by kernel_rfl) ?_
     simp only[Act.put,aA]
     refine q_val (.bool false) rfl (fun w' hw'=>by go_simp) ?_
     simp only[Act.put,aA]
     refine q_val (.bool false) rfl (fun w' hw'=>by go_simp) ?_
     simp only[Act.put,aA]
     refine wpQuiet_nil ?_
     intro w3 hw3
     go_wp2_with fail
     go_ret
     exact⟨by rw[HV.out]; rfl,hB0.trans ((HW.out w3 hw3).mono hB0.size)⟩
    | true=>
     have HZ:=Lib.hid hez
     rw[hez] at HV
     clear hez
     cases hea:(A == 28) && (B == 2 * q+176) with
     | false=>
      have HA:=Lib.hid (fun w'=>(HA0.out w').trans (by rw[hea]))
      rw[hea] at HV
      clear hea
      refine q_move _ rfl rfl ?_
      simp only[Act.put,aA]
      refine q_move _ rfl rfl ?_
      simp only[Act.put,aA]
      refine q_val (.pointer (some ⟨w.heap.size,4,none⟩)) (by kernel_rfl) (fun w' hw'=>by go_simp) ?_
      simp only[Act.put,aA]
      refine q_val (.agg #[.int .i64 gen,.slice pa k cap]) (by kernel_rfl) (fun w' hw'=>by have hv:=HBX.out w' hw'; have k4:=hv.c4; have k5:=hv.c5; clear hv; go_simp) ?_
      simp only[Act.put,aA]
      refine q_val (.pointer (some ⟨bg,0,none⟩)) (by kernel_rfl) (fun w' hw'=>by go_simp) ?_
      simp only[Act.put,aA]
      refine q_val (.int .i64 (4 * q+316)) (by kernel_rfl) (fun w' hw'=>by have hv:=HGX.out w' hw'; have k0:=hv.c0; clear hv; go_simp) ?_
      simp only[Act.put,aA]
      refine q_call 117 _ (.bool true) (by kernel_rfl) (fun w'=>by go_simp) (fun w' hw'=>(HRI.out w' (HW.out w' hw')).mono fun e w'' ⟨he,hb⟩=>⟨he,hw'.trans (hb.mono hw'.size)⟩) ?_
      simp only[Act.put,aA]
      refine q_val (.bool true) rfl (fun w' hw'=>by go_simp) ?_
      simp only[Act.put,aA]
      refine q_move _ rfl rfl ?_
      simp only[Act.put,aA]
      refine q_val (.pointer (some ⟨w.heap.size,6,none⟩)) (by kernel_rfl) (fun w' hw'=>by go_simp) ?_
      simp only[Act.put,aA]
      refine q_val (.agg #[.int .i64 A,.int .i64 B,.int .i64 Z,.slice ao kk kc]) (by kernel_rfl) (fun w' hw'=>by have hv:=HBX.out w' hw'; have k6:=hv.c6; have k7:=hv.c7; have k8:=hv.c8; have k9:=hv.c9; clear hv; go_simp) ?_
      simp only[Act.put,aA]
      refine q_call 128 _ (.bool true) (by kernel_rfl) (fun w'=>by go_simp) (fun w' hw'=>(HFO.out w' (HW.out w' hw')).mono fun e w'' ⟨he,hb⟩=>⟨he,hw'.trans (hb.mono hw'.size)⟩) ?_
      simp only[Act.put,aA]
      refine q_val (.bool true) rfl (fun w' hw'=>by go_simp) ?_
      simp only[Act.put,aA]
      refine q_move _ rfl rfl ?_
      simp only[Act.put,aA]
      refine q_val (.pointer (some ⟨w.heap.size,6,none⟩)) (by kernel_rfl) (fun w' hw'=>by go_simp) ?_
      simp only[Act.put,aA]
      refine q_val (.pointer (some ⟨w.heap.size,8,none⟩)) (by kernel_rfl) (fun w' hw'=>by go_simp) ?_
      simp only[Act.put,aA]
      refine q_val (.int .i64 Z) (by kernel_rfl) (fun w' hw'=>by have hv:=HBX.out w' hw'; have k8:=hv.c8; clear hv; go_simp) ?_
      simp only[Act.put,aA]
      refine q_val (.pointer (some ⟨bg,5,none⟩)) (by kernel_rfl) (fun w' hw'=>by go_simp) ?_
      simp only[Act.put,aA]
      refine q_val (.int .i64 (2 * q+120)) (by kernel_rfl) (fun w' hw'=>by have hv:=HGX.out w' hw'; have k5:=hv.c5; clear hv; go_simp) ?_
      simp only[Act.put,aA]
      refine q_val (.bool true) (by kernel_rfl) (fun w' hw'=>by have hz:=HZ.out; go_simp) ?_
      simp only[Act.put,aA]
      refine q_val (.bool true) rfl (fun w' hw'=>by go_simp) ?_
      simp only[Act.put,aA]
      refine q_move _ rfl rfl ?_
      simp only[Act.put,aA]
      refine q_val (.pointer (some ⟨w.heap.size,6,none⟩)) (by kernel_rfl) (fun w' hw'=>by go_simp) ?_
      simp only[Act.put,aA]
      refine q_val (.pointer (some ⟨w.heap.size,6,none⟩)) (by kernel_rfl) (fun w' hw'=>by go_simp) ?_
      simp only[Act.put,aA]
      refine q_val (.agg #[.int .i64 A,.int .i64 B]) (by kernel_rfl) (fun w' hw'=>by have hv:=HBX.out w' hw'; have k6:=hv.c6; have k7:=hv.c7; clear hv; go_simp) ?_
      simp only[Act.put,aA]
      refine q_val (.agg #[.int .i64 (4 * q+316),.int .i64 (2 * q+148),.int .i64 2,.int .i64 4,.int .i64 28,.int .i64 (2 * q+120)]) (by kernel_rfl) (fun w' hw'=>by have hv:=HGX.out w' hw'; have k0:=hv.c0; have k1:=hv.c1; have k2:=hv.c2; have k3:=hv.c3; have k4:=hv.c4; have k5:=hv.c5; clear hv; go_simp) ?_
      simp only[Act.put,aA]
      refine q_call 95 _ (.agg #[.int .i64 28,.int .i64 (2 * q+176)]) (by kernel_rfl) (fun w'=>by go_simp) (fun w' hw'=>(HFI.out w').mono fun e w'' ⟨he,hb⟩=>⟨he,hw'.trans (hb.mono hw'.size)⟩) ?_
      simp only[Act.put,aA]
      refine q_eqlV 38 _ (.tmp 35) (.tmp 37) rfl (by kernel_rfl) (#[.int .i64 A,.int .i64 B]) (#[.int .i64 28,.int .i64 (2 * q+176)]) rfl rfl false guard2 (fun w' _=>HA.out w') ?_
      simp only[Act.put,aA]
      refine q_val (.bool false) rfl (fun w' hw'=>by go_simp) ?_
      simp only[Act.put,aA]
      refine q_val (.bool false) rfl (fun w' hw'=>by go_simp) ?_
      simp only[Act.put,aA]
      refine wpQuiet_nil ?_
      intro w3 hw3
      go_wp2_with fail
      go_ret
      exact⟨by rw[HV.out]; rfl,hB0.trans ((HW.out w3 hw3).mono hB0.size)⟩
     | true=>
      have HA:=Lib.hid (fun w'=>(HA0.out w').trans (by rw[hea]))
      rw[hea] at HV
      clear hea
      refine q_move _ rfl rfl ?_
      simp only[Act.put,aA]
      refine q_move _ rfl rfl ?_
      simp only[Act.put,aA]
      refine q_val (.pointer (some ⟨w.heap.size,4,none⟩)) (by kernel_rfl) (fun w' hw'=>by go_simp) ?_
      simp only[Act.put,aA]
      refine q_val (.agg #[.int .i64 gen,.slice pa k cap]) (by kernel_rfl) (fun w' hw'=>by have hv:=HBX.out w' hw'; have k4:=hv.c4; have k5:=hv.c5; clear hv; go_simp) ?_
      simp only[Act.put,aA]
      refine q_val (.pointer (some ⟨bg,0,none⟩)) (by kernel_rfl) (fun w' hw'=>by go_simp) ?_
      simp only[Act.put,aA]
      refine q_val (.int .i64 (4 * q+316)) (by kernel_rfl) (fun w' hw'=>by have hv:=HGX.out w' hw'; have k0:=hv.c0; clear hv; go_simp) ?_
      simp only[Act.put,aA]
      refine q_call 117 _ (.bool true) (by kernel_rfl) (fun w'=>by go_simp) (fun w' hw'=>(HRI.out w' (HW.out w' hw')).mono fun e w'' ⟨he,hb⟩=>⟨he,hw'.trans (hb.mono hw'.size)⟩) ?_
      simp only[Act.put,aA]
      refine q_val (.bool true) rfl (fun w' hw'=>by go_simp) ?_
      simp only[Act.put,aA]
      refine q_move _ rfl rfl ?_
      simp only[Act.put,aA]
      refine q_val (.pointer (some ⟨w.heap.size,6,none⟩)) (by kernel_rfl) (fun w' hw'=>by go_simp) ?_
      simp only[Act.put,aA]
      refine q_val (.agg #[.int .i64 A,.int .i64 B,.int .i64 Z,.slice ao kk kc]) (by kernel_rfl) (fun w' hw'=>by have hv:=HBX.out w' hw'; have k6:=hv.c6; have k7:=hv.c7; have k8:=hv.c8; have k9:=hv.c9; clear hv; go_simp) ?_
      simp only[Act.put,aA]
      refine q_call 128 _ (.bool true) (by kernel_rfl) (fun w'=>by go_simp) (fun w' hw'=>(HFO.out w' (HW.out w' hw')).mono fun e w'' ⟨he,hb⟩=>⟨he,hw'.trans (hb.mono hw'.size)⟩) ?_
      simp only[Act.put,aA]
      refine q_val (.bool true) rfl (fun w' hw'=>by go_simp) ?_
      simp only[Act.put,aA]
      refine q_move _ rfl rfl ?_
      simp only[Act.put,aA]
      refine q_val (.pointer (some ⟨w.heap.size,6,none⟩)) (by kernel_rfl) (fun w' hw'=>by go_simp) ?_
      simp only[Act.put,aA]
      refine q_val (.pointer (some ⟨w.heap.size,8,none⟩)) (by kernel_rfl) (fun w' hw'=>by go_simp) ?_
      simp only[Act.put,aA]
      refine q_val (.int .i64 Z) (by kernel_rfl) (fun w' hw'=>by have hv:=HBX.out w' hw'; have k8:=hv.c8; clear hv; go_simp) ?_
      simp only[Act.put,aA]
      refine q_val (.pointer (some ⟨bg,5,none⟩)) (by kernel_rfl) (fun w' hw'=>by go_simp) ?_
      simp only[Act.put,aA]
      refine q_val (.int .i64 (2 * q+120)) (by kernel_rfl) (fun w' hw'=>by have hv:=HGX.out w' hw'; have k5:=hv.c5; clear hv; go_simp) ?_
      simp only[Act.put,aA]
      refine q_val (.bool true) (by kernel_rfl) (fun w' hw'=>by have hz:=HZ.out; go_simp) ?_
      simp only[Act.put,aA]
      refine q_val (.bool true) rfl (fun w' hw'=>by go_simp) ?_
      simp only[Act.put,aA]
      refine q_move _ rfl rfl ?_
      simp only[Act.put,aA]
      refine q_val (.pointer (some ⟨w.heap.size,6,none⟩)) (by kernel_rfl) (fun w' hw'=>by go_simp) ?_
      simp only[Act.put,aA]
      refine q_val (.pointer (some ⟨w.heap.size,6,none⟩)) (by kernel_rfl) (fun w' hw'=>by go_simp) ?_
      simp only[Act.put,aA]
      refine q_val (.agg #[.int .i64 A,.int .i64 B]) (by kernel_rfl) (fun w' hw'=>by have hv:=HBX.out w' hw'; have k6:=hv.c6; have k7:=hv.c7; clear hv; go_simp) ?_
      simp only[Act.put,aA]
      refine q_val (.agg #[.int .i64 (4 * q+316),.int .i64 (2 * q+148),.int .i64 2,.int .i64 4,.int .i64 28,.int .i64 (2 * q+120)]) (by kernel_rfl) (fun w' hw'=>by have hv:=HGX.out w' hw'; have k0:=hv.c0; have k1:=hv.c1; have k2:=hv.c2; have k3:=hv.c3; have k4:=hv.c4; have k5:=hv.c5; clear hv; go_simp) ?_
      simp only[Act.put,aA]
      refine q_call 95 _ (.agg #[.int .i64 28,.int .i64 (2 * q+176)]) (by kernel_rfl) (fun w'=>by go_simp) (fun w' hw'=>(HFI.out w').mono fun e w'' ⟨he,hb⟩=>⟨he,hw'.trans (hb.mono hw'.size)⟩) ?_
      simp only[Act.put,aA]
      refine q_eqlV 38 _ (.tmp 35) (.tmp 37) rfl (by kernel_rfl) (#[.int .i64 A,.int .i64 B]) (#[.int .i64 28,.int .i64 (2 * q+176)]) rfl rfl true guard2 (fun w' _=>HA.out w') ?_
      simp only[Act.put,aA]
      refine q_val (.bool true) rfl (fun w' hw'=>by go_simp) ?_
      simp only[Act.put,aA]
      refine q_val (.bool true) rfl (fun w' hw'=>by go_simp) ?_
      simp only[Act.put,aA]
      refine wpQuiet_nil ?_
      intro w3 hw3
      go_wp2_with fail
      go_ret
      exact⟨by rw[HV.out]; rfl,hB0.trans ((HW.out w3 hw3).mono hB0.size)⟩
end Vl
end Go.Proofs.YteaocagepfgfnaaGreatDoor
