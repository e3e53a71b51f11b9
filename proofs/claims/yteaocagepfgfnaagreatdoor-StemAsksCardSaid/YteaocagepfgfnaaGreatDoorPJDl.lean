import Derived.Test.YteaocagepfgfnaaGreatDoorPJDk
import Derived.Deep.RegionHeld3
import Derived.Test.YteaocagepfgfnaaGreatDoorPJSha
import Derived.Deep.AppendLies
import Derived.Great.BuildSlice
set_option maxRecDepth 100000
set_option maxHeartbeats 8000000
namespace Go.Proofs.YteaocagepfgfnaaGreatDoor
namespace Dk
open Go.RowKit
theorem owns_form{w:World}{B n:Nat}{S:Nat→Sec}{v:Value}(h:w.ownsRow B 130 130 v n (flat (fun i=>secV (S i)) n))(hn:1≤n):∃b sc,v=.slice (some ⟨b,0,none⟩) n sc∧B≤b∧b < w.heap.size∧n≤sc∧Rw w b n S:=by
 have hlt:=h.lt
 have h2:=h.2
 rcases h2 with ⟨_,h0⟩ | ⟨b,cap,cur,hv,hb,hc,hnc,_⟩
 ·omega
 ·subst hv
  obtain⟨b',off,e,_,_,hr⟩:=(lay_own (g:=w.heap.size) (fun i _=>secV_length _) h (.inr (Nat.le_refl _))).rows.resolve_left (by omega)
  injection e with e
  injection e with e1 e2
  subst e1 e2
  exact⟨b,cap,rfl,hb,(hlt b rfl).2,hnc,fun i hi=>by have:=hr i hi; rwa [Nat.zero_add] at this,fun j=>frozen_of_row w b j _ _ hc,⟨_,hc⟩⟩
theorem Rd.heap{B:Nat}{g:Pl}{b q qo n m:Nat}{v0 v1 v2 v3:Value}{S:Nat→Sec}{C:Nat→Wr}{w wr wr':World}(h:Rd B g b q qo n m v0 v1 v2 v3 S C w wr)(hh:∀k:Nat,wr'.heap[k]?=wr.heap[k]?)(hs:wr'.heap.size=wr.heap.size)(ho:wr'.os=wr.os)(ht:wr'.tape=wr.tape)(hp:wr'.output=wr.output):Rd B g b q qo n m v0 v1 v2 v3 S C w wr':=
 ⟨h.bx.block (hh g),h.rows.block (hh b),fun i hi j v hv=>(World.cell?_of_block (w:=wr) (hh q)).trans (h.cache i hi j v hv),h.near.trans ⟨ho,ht,hp,by rw[hs]; exact Nat.le_refl _,fun k _ _=>hh k⟩⟩
end Dk
namespace Dk
open Go.RowKit
theorem formed_n{n m:Nat}{C:Nat→Wr}(h:formedB n m C=true):1≤n∧inAll n C m=true:=by
 unfold formedB at h
 simp only[Bool.and_eq_true,decide_eq_true_eq] at h
 exact⟨h.1.1,h.2⟩
theorem Mine.some{w:World}{B:Nat}{g:Pl}{sa ca:Option Addr}{n sc m cc:Nat}{S:Nat→Sec}{C:Nat→Wr}{f:Int}{d:Bool}(h:Mine w B g sa ca n sc m cc S C f d)(hn:1≤n):∃b,sa=.some ⟨b,0,none⟩:=by
 obtain⟨b,c,e,_⟩:=owns_form h.ss hn
 injection e with e
 exact⟨b,e⟩
def flOk(n m:Nat)(C:Nat→Wr)(f:Int)(d:Bool):Bool:=formedB n m C && decide (actE f d=0)
def flE(n m:Nat)(C:Nat→Wr)(f:Int)(d:Bool):Int:=if formedB n m C then actE f d else 1
def flM(n m:Nat)(C:Nat→Wr)(f:Int)(d:Bool):Nat:=if flOk n m C f d then 0 else m
def flS(n m:Nat)(S:Nat→Sec)(C:Nat→Wr)(f:Int)(d:Bool):Nat→Sec:=if flOk n m C f d then stS S C (fun _=>true) m else S
def flF(n m:Nat)(C:Nat→Wr)(f:Int)(d:Bool):Int:=if formedB n m C then actF f d else f
def flD(n m:Nat)(C:Nat→Wr)(f:Int)(d:Bool):Bool:=if formedB n m C then actD f d else d
theorem actE_cases(f:Int)(d:Bool):actE f d=0∨actE f d=3:=by unfold actE; split <;> simp
theorem flush_any(g:Pl)(sa ca:Option Addr)(n sc m cc:Nat)(S:Nat→Sec)(C:Nat→Wr)(f:Int)(d:Bool)(w:World)(h:Has w g sa ca n sc m cc S C f d)(hf:-9223372036854775808≤f∧f≤9223372036854775807) :
  Calls Tryz.prog 94 #[.pointer (some ⟨g.b,g.o,none⟩)] w (Turns w g (flE n m C f d) n (flM n m C f d) (flS n m S C f d) C (flF n m C f d) (flD n m C f d)):=by
 have hF:=h.formed
 have HH:=Lib.hid h
 have nb:=h.nb
 have mb:=h.mb
 clear h
 unfold Turns flE flM flS flF flD flOk
 cases hfm:formedB n m C with
 | false=>
  rw[hfm] at hF
  clear hfm
  simp only[Bool.false_and,Bool.false_eq_true,if_false]
  go_enter Tryz.func94,Tryz.ntmps94
  go_wp2_with fail
  refine hF.mono ?_
  rintro _ w1 ⟨rfl,hb⟩
  dsimp only
  go_wp2_with fail
  go_ret
  exact⟨rfl,oB hb,sa,sc,ca,cc,HH.out.below hb⟩
 | true=>
  rw[hfm] at hF
  obtain⟨hn,hC⟩:=formed_n hfm
  clear hfm
  have HC:=Lib.hid hC
  clear hC
  have hA:∀w1,Has w1 g sa ca n sc m cc S C f d→Calls Tryz.prog 122 #[.pointer (some ⟨g.b,g.o,none⟩)] w1 (Acts w1 g n m S C f d):=fun w1 h1=>act_any g sa ca n sc m cc S C f d w1 h1 hf
  have HA:=Lib.hid hA
  clear hA
  unfold Acts at HA
  simp only[Bool.true_and,if_true]
  generalize hfa:actF f d=fa at HA ⊢
  generalize hda:actD f d=da at HA ⊢
  have hc:=actE_cases f d
  generalize hea:actE f d=ea at HA hc ⊢
  clear hfa hda hea
  rcases hc with rfl | rfl
  ·simp only[decide_true,if_true]
   go_enter Tryz.func94,Tryz.ntmps94
   go_wp2_with fail
   refine hF.mono ?_
   rintro _ w1 ⟨rfl,hb⟩
   dsimp only
   go_wp2_with fail
   refine(HA.out w1 (HH.out.below hb)).mono ?_
   rintro _ w2 ⟨rfl,hg2,_,hM⟩
   obtain⟨sa2,sc2,ca2,cc2,hM⟩:=hM (by first | trivial | rfl)
   obtain⟨b,rfl⟩:=hM.some hn
   dsimp only
   go_wp2_with fail
   refine(settleF_any w1.heap.size g b ca2 n sc2 m cc2 S C fa da (fun _=>true) w2 hM hn nb mb HC.out (fun _=>rfl)).mono ?_
   rintro _ w3 ⟨⟨v,rfl⟩,hN,hH⟩
   dsimp only
   go_wp2_with fail
   go_ret
   exact⟨rfl,oT (oB hb) (hN.only hg2),_,_,_,_,hH⟩
  ·simp only[show decide ((3:Int)=0)=false from rfl,Bool.false_eq_true,if_false]
   go_enter Tryz.func94,Tryz.ntmps94
   go_wp2_with fail
   refine hF.mono ?_
   rintro _ w1 ⟨rfl,hb⟩
   dsimp only
   go_wp2_with fail
   refine(HA.out w1 (HH.out.below hb)).mono ?_
   rintro _ w2 ⟨rfl,hg2,hH,_⟩
   dsimp only
   go_wp2_with fail
   go_ret
   exact⟨rfl,oT (oB hb) hg2,hH⟩
end Dk
namespace Dk
open Go.RowKit
theorem wr_size(x:Wr):(wrV x).toArray.size=129:=by rw[List.size_toArray,wrV_length]
def bw(p:Int)(D:Nat→Int):List Value:=wrV ⟨p,D⟩
theorem built65(p:Int)(D:Nat→Int):Tryz.prog.built 108 [(0,.int .i64 p),(1,.agg (bl D).toArray)]=some (bw p D).toArray:=by kernel_rfl
theorem wp_build65{o:Oper}{a:Act}{w:World}{K:Act→World→Prop}{Q:Exit→Act→World→Prop}(p:Int)(D:Nat→Int)(x y:Operand)(ho:o.op=.build 108 #[(0,x),(1,y)])(hx:a.eval x=.int .i64 p)(hy:a.eval y=.agg (bl D).toArray)
  (h:K (a.put o.dst (.agg (bw p D).toArray)) w):o.wp Tryz.prog a w K Q:=by
 unfold Oper.wp execOp
 have hb:Tryz.prog.built 108 ((#[(0,x),(1,y)]:Array (Nat × Operand)).map fun(i,x)=>(i,a.eval x)).toList=some (bw p D).toArray:=by
  simp only[List.map_toArray,List.map_cons,List.map_nil,hx,hy]
  exact built65 p D
 simp only[ho,Sem.run_bind,run_build w 108 _ _ hb,Result.andThen_ok]
 exact h
theorem fill65(p:Int)(D:Nat→Int):Instr.fill (fun i=>some (i * 129,129)) ((Array.range (1 * 129)).map ((Value.agg (wrV wr0).toArray).cells[· % (Value.agg (wrV wr0).toArray).cells.size]!)) [(0,.agg (bw p D).toArray)]=some (bw p D).toArray:=by kernel_rfl
theorem wp_bslice65{o:Oper}{a:Act}{w:World}{K:Act→World→Prop}{Q:Exit→Act→World→Prop}(p:Int)(D:Nat→Int)(x:Operand)(ho:o.op=.buildSlice 32 1 #[(0,x)])(hx:a.eval x=.agg (bw p D).toArray)
  (h:K (a.put o.dst (.slice (some ⟨w.heap.size,0,none⟩) 1 1)) (w.alloc (.cells (bw p D).toArray 108))):o.wp Tryz.prog a w K Q:=by
 obtain⟨i0,hi,hz0,hz1,hz2⟩:=info_parts info_wr
 refine wp_buildSlice 32 108 1 #[(0,x)] ho _ i0 _ slice_wr hi hz0 (by rw[hz1]; decide) (by rw[hz1]; decide) ?_ h
 rw[hz1]
 simp only[List.map_toArray,List.map_cons,List.map_nil,hx]
 exact fill65 p D
theorem owns_ne{w:World}{B B':Nat}{e e':TypeId}{k k' n n':Nat}{v v':Value}{xs xs':List Value}(h:w.ownsRow B e k v n xs)(h':w.ownsRow B' e' k' v' n' xs')(hne:e≠e'):v.ownBlock=none∨v.ownBlock≠v'.ownBlock:=by
 rcases h.2 with ⟨hv,_⟩ | ⟨b,cap,cur,hv,_,hc,_⟩
 ·subst hv; exact .inl rfl
 ·refine .inr fun he=>?_
  subst hv
  rcases h'.2 with ⟨hv',_⟩ | ⟨b',cap',cur',hv',_,hc',_⟩
  ·subst hv'; cases he
  ·subst hv'
   injection he with he
   simp only at he
   subst he
   rw[hc] at hc'
   injection hc' with hc'
   injection hc' with _ hc' _
   exact hne hc'
theorem kL{L:Nat→Bool}{i j:Nat}{P:Prop}(h:L j=true→P)(hij:(j == i)=false):(j == i || L j)=true→P:=by rw[hij,Bool.false_or]; exact h
theorem keepL'{L:Nat→Bool}{i j:Nat}{P:Prop}(h:L j=false→P)(hij:(j == i)=false):(j == i || L j)=false→P:=by rw[hij,Bool.false_or]; exact h
def WInv(x2 x3 x4 x6 x7 x8 x9 x10 x11 x12 x13 x14 x15 x16 x17 x18 x19 x20 x21 x22 x23 x24 x25 x26 x27 x28 x29 x30 x31 y0 y1:Value)(g:Pl)(xb p:Nat)(D:Nat→Int)(ca:Option Addr)(m cc B:Nat)(F:List Value)(sv:Value)(n:Nat)(G:List Value)(W:World)(L:Nat→Bool)(a:Act)(w':World):Prop:=
 ∃u0 u1 u2 u3 u4 u5 u6 u7 u8 u9,a={ tmps:=#[.pointer (some ⟨g.b,g.o,none⟩),.int .i64 p,x2,x3,x4,.pointer (some ⟨xb,0,none⟩),x6,x7,x8,x9,x10,x11,x12,x13,x14,x15,x16,x17,x18,x19,x20,x21,x22,x23,x24,x25,x26,x27,x28,x29,x30,x31,u0,u1,u2,u3,u4,u5,u6,u7,u8,u9,y0,y1],defers:=[] }∧(L 0=true→u0=.pointer (some ⟨g.b,g.o,none⟩))∧(L 1=true→u1=.pointer (some ⟨g.b,g.o,none⟩))∧(L 2=true→u2=.pointer (some ⟨g.b,g.o,none⟩))∧(L 3=true→u3=.pointer (some ⟨g.b,g.o+1,none⟩))∧(L 4=true→u4=.slice ca m cc)∧(L 5=true→u5=.int .i64 p)∧(L 6=true→u6=.agg (bl D).toArray)∧(L 7=true→u7=.agg (bw p D).toArray)∧(L 8=true→∃gb,u8=.slice (some ⟨gb,0,none⟩) 1 1∧(L 9=false→w'.heap[gb]?=some (.cells (bw p D).toArray 108 (0,0))))∧(L 9=true→∃b5 c5,u9=.slice (some ⟨b5,0,none⟩) (m+1) c5∧w'.ownsRow B 108 129 (.slice (some ⟨b5,0,none⟩) (m+1) c5) (m+1) (F ++ bw p D))∧
  Below B W w'∧B≤w'.heap.size∧w'.ownsRow B 130 130 sv n G∧(L 9=false→w'.ownsRow B 108 129 (.slice ca m cc) m F)
end Dk
namespace Dk
open Go.RowKit
def updC(C:Nat→Wr)(p:Nat)(x:Wr)(i:Nat):Wr:=if i=p then x else C i
theorem flat_updC(C:Nat→Wr)(m:Nat)(x:Wr):flat (fun i=>wrV (updC C m x i)) (m+1)=flat (fun i=>wrV (C i)) m ++ wrV x:=by
 rw[flat_succ]
 congr 1
 ·exact flat_congr fun i hi=>by simp only[updC]; rw[if_neg (by omega)]
 ·simp[updC]
def wrOk(n m:Nat)(C:Nat→Wr)(a:Int):Bool:=formedB n m C && hasB n a
def wrE(n m:Nat)(S:Nat→Sec)(C:Nat→Wr)(f:Int)(d:Bool)(a:Int):Int:=if wrOk n m C a then if actE f d=0 then if (S a.toNat).noWrite then 2 else 0 else 3 else 1
def wrM(n m:Nat)(S:Nat→Sec)(C:Nat→Wr)(f:Int)(d:Bool)(a:Int):Nat:=if wrE n m S C f d a=0 then m+1 else m
def wrC(n m:Nat)(S:Nat→Sec)(C:Nat→Wr)(f:Int)(d:Bool)(a:Int)(D:Nat→Int):Nat→Wr:=if wrE n m S C f d a=0 then updC C m ⟨a,D⟩ else C
def wrF(n m:Nat)(C:Nat→Wr)(f:Int)(d:Bool)(a:Int):Int:=if wrOk n m C a then actF f d else f
def wrD(n m:Nat)(C:Nat→Wr)(f:Int)(d:Bool)(a:Int):Bool:=if wrOk n m C a then actD f d else d
def Writes(w:World)(g:Pl)(n m:Nat)(S:Nat→Sec)(C:Nat→Wr)(f:Int)(d:Bool)(a:Int)(D:Nat→Int):Ending→World→Prop:=
 Turns w g (wrE n m S C f d a) n (wrM n m S C f d a) S (wrC n m S C f d a D) (wrF n m C f d a) (wrD n m C f d a)
section
variable {w:World}{g:Pl}{n m:Nat}{S:Nat→Sec}{C:Nat→Wr}{f:Int}{d:Bool}{a:Int}{D:Nat→Int}{e:Ending}{w':World}
theorem writes_no(hok:wrOk n m C a=false)(h:Turns w g 1 n m S C f d e w'):Writes w g n m S C f d a D e w':=by
 have h0:wrE n m S C f d a=1:=by unfold wrE; rw[hok]; rfl
 unfold Writes wrM wrC wrF wrD
 rw[h0,hok]
 exact h
theorem writes_down(hok:wrOk n m C a=true)(ha:actE f d=3)(h:Turns w g 3 n m S C (actF f d) (actD f d) e w'):Writes w g n m S C f d a D e w':=by
 have h0:wrE n m S C f d a=3:=by unfold wrE; rw[hok,ha]; rfl
 unfold Writes wrM wrC wrF wrD
 rw[h0,hok]
 exact h
theorem writes_io(hok:wrOk n m C a=true)(ha:actE f d=0)(hs:(S a.toNat).noWrite=true)(h:Turns w g 2 n m S C (actF f d) (actD f d) e w'):Writes w g n m S C f d a D e w':=by
 have h0:wrE n m S C f d a=2:=by unfold wrE; rw[hok,ha,hs]; rfl
 unfold Writes wrM wrC wrF wrD
 rw[h0,hok]
 exact h
theorem writes_ok(hok:wrOk n m C a=true)(ha:actE f d=0)(hs:(S a.toNat).noWrite=false)(h:Turns w g 0 n (m+1) S (updC C m ⟨a,D⟩) (actF f d) (actD f d) e w'):Writes w g n m S C f d a D e w':=by
 have h0:wrE n m S C f d a=0:=by unfold wrE; rw[hok,ha,hs]; rfl
 unfold Writes wrM wrC wrF wrD
 rw[h0,hok]
 exact h
end
theorem near_below{B g k:Nat}{w w':World}(h:Below B w w')(hk:k≤B):Near k g w w':=⟨h.os,h.tape,h.output,h.size,fun i hi _=>h.block i (by omega)⟩
theorem write_any(g:Pl)(sa ca:Option Addr)(n sc m cc:Nat)(S:Nat→Sec)(C:Nat→Wr)(f:Int)(d:Bool)(a:Int)(D:Nat→Int)(w:World)(h:Has w g sa ca n sc m cc S C f d)(hf:-9223372036854775808≤f∧f≤9223372036854775807)(hm1:(m+1) * 136≤140737488355328) :
  Calls Tryz.prog 92 #[.pointer (some ⟨g.b,g.o,none⟩),.int .i64 a,.agg (bl D).toArray] w (Writes w g n m S C f d a D):=by
 have HH:=Lib.hid h
 have nb:=h.nb
 have mb:=h.mb
 clear h
 have hb0:Below w.heap.size w (w.alloc (.cells (bl D).toArray 47)):=(Below.refl _ _).alloc (Nat.le_refl _) _
 have hx0:(w.alloc (.cells (bl D).toArray 47)).heap[w.heap.size]?=some (.cells (bl D).toArray 47 (0,0)):=heap_alloc_new _ _
 have hs0:(w.alloc (.cells (bl D).toArray 47)).heap.size=w.heap.size+1:=by simp
 have hF:=(HH.out.below hb0).formed
 have hgw:=HH.out.bx.lt
 have h47:=HH.out.n47
 have hl1:=bl_one D
 have hl2:=sB D
 have hl3:=bL D
 generalize hL:bl D=L at hb0 hx0 hs0 hF hl1 hl2 hl3 ⊢
 have HL:=Lib.hid hL
 clear hL
 cases hfm:formedB n m C with
 | false=>
  have hok:wrOk n m C a=false:=by unfold wrOk; rw[hfm]; rfl
  rw[hfm] at hF
  clear hfm
  go_enter Tryz.func92,Tryz.ntmps92
  go_wp2_with fail
  refine hF.mono ?_
  rintro _ w1 ⟨rfl,hb⟩
  dsimp only
  go_wp2_with fail
  go_ret
  have hb1:Below w.heap.size w w1:=hb0.trans (hb.mono (by omega))
  exact writes_no hok ⟨rfl,oB hb1,sa,sc,ca,cc,HH.out.below hb1⟩
 | true=>
  rw[hfm] at hF
  cases hha:hasB n a with
  | false=>
   have hok:wrOk n m C a=false:=by unfold wrOk; rw[hfm,hha]; rfl
   clear hfm
   go_enter Tryz.func92,Tryz.ntmps92
   go_wp2_with fail
   refine hF.mono ?_
   rintro _ w1 ⟨rfl,hb⟩
   have hb1:Below w.heap.size w w1:=hb0.trans (hb.mono (by omega))
   have hH1:=HH.out.below hb1
   have d0:=hH1.bx.c0
   have d1:=hH1.bx.c1
   have d2:=hH1.bx.c2
   have d3:=hH1.bx.c3
   dsimp only
   go_wp2_with fail
   refine(has_any sa ca n sc m cc f a d w1 h47.1).mono ?_
   rw[hha]
   rintro _ w2 ⟨rfl,hb2⟩
   dsimp only
   go_wp2_with fail
   go_ret
   have hb3:Below w.heap.size w w2:=hb1.trans (hb2.mono hb1.size)
   exact writes_no hok ⟨rfl,oB hb3,sa,sc,ca,cc,HH.out.below hb3⟩
  | true=>
   have hok:wrOk n m C a=true:=by unfold wrOk; rw[hfm,hha]; rfl
   obtain⟨hn,_⟩:=formed_n hfm
   obtain⟨ha0,ha1⟩:=hasB_nat hha
   obtain⟨p,rfl⟩:∃p:Nat,a=p:=⟨a.toNat,by omega⟩
   have hpn:p < n:=by omega
   clear hfm
   have HA:=Lib.hid (fun w1 (h1:Has w1 g sa ca n sc m cc S C f d)=>act_any g sa ca n sc m cc S C f d w1 h1 hf)
   have HOK:=Lib.hid hok
   clear hok
   have hEnd1:=Lib.hid (fun(e:Ending) (w':World) (ha:actE f d=3) (h:Turns w g 3 n m S C (actF f d) (actD f d) e w')=>writes_down (D:=D) HOK.out ha h)
   have hEnd2:=Lib.hid (fun(e:Ending) (w':World) (ha:actE f d=0) (hs:(S ((p:Int)).toNat).noWrite=true) (h:Turns w g 2 n m S C (actF f d) (actD f d) e w')=>writes_io (D:=D) HOK.out ha hs h)
   have hEnd3:=Lib.hid (fun(e:Ending) (w':World) (ha:actE f d=0) (hs:(S ((p:Int)).toNat).noWrite=false) (h:Turns w g 0 n (m+1) S (updC C m ⟨p,D⟩) (actF f d) (actD f d) e w')=>writes_ok (D:=D) HOK.out ha hs h)
   unfold Acts at HA
   generalize actF f d=fa at HA hEnd1 hEnd2 hEnd3
   generalize actD f d=da at HA hEnd1 hEnd2 hEnd3
   have hc:=actE_cases f d
   generalize actE f d=ea at HA hEnd1 hEnd2 hEnd3 hc
   go_enter Tryz.func92,Tryz.ntmps92
   go_wp2_with fail
   generalize hW:w.alloc (.cells L.toArray 47)=W at hb0 hx0 hs0 hF ⊢
   clear hW
   refine hF.mono ?_
   rintro _ w1 ⟨rfl,hb⟩
   have hb1:Below w.heap.size w w1:=hb0.trans (hb.mono (by omega))
   have hH1:=HH.out.below hb1
   have d0:=hH1.bx.c0
   have d1:=hH1.bx.c1
   have d2:=hH1.bx.c2
   have d3:=hH1.bx.c3
   have hx1:=(hb.block w.heap.size (by omega)).trans hx0
   have hs1:=hb.size
   clear hF hb hx0
   dsimp only
   go_wp2_with fail
   refine(has_any sa ca n sc m cc f p d w1 h47.1).mono ?_
   rw[hha]
   rintro _ w2 ⟨rfl,hb2⟩
   have hb3:Below w.heap.size w w2:=hb1.trans (hb2.mono hb1.size)
   have hx2:=(hb2.block w.heap.size (by omega)).trans hx1
   have hs2:=hb2.size
   clear hH1 d0 d1 d2 d3 hx1 hb2
   dsimp only
   go_wp2_with fail
   refine(HA.out w2 (HH.out.below hb3)).mono ?_
   rintro _ w3 ⟨rfl,hg3,hH3,hM⟩
   have hx3:=(hg3.block w.heap.size (by omega) (by simp; omega)).trans hx2
   clear HA hx2
   rcases hc with rfl | rfl
   ·obtain⟨sa3,sc3,ca3,cc3,hM3⟩:=hM rfl
    clear hM
    obtain⟨b,rfl⟩:=hM3.some hn
    have k0:=hM3.bx.c0
    have k1:=hM3.bx.c1
    have kf1:=hM3.bx.fr (g.o+1)
    have hg3':=hM3.bx.lt
    obtain⟨b0,sc0,e,_,_,_,hRw⟩:=owns_form hM3.ss hn
    obtain rfl:b=b0:=by
     injection e with e
     injection e with e
     injection e with e
    clear e
    have cN:w3.cell? ⟨b,p * 130+129,none⟩=some (.bool (S p).noWrite):=hRw.rows p hpn 129 _ (secV_write _)
    cases hnw:(S p).noWrite with
    | true=>
     rw[hnw] at cN
     dsimp only
     go_wp2_with fail
     go_ret
     exact hEnd2.out _ _ (by first | trivial | rfl) hnw ⟨rfl,oT (oB hb3) hg3,hH3⟩
    | false=>
     rw[hnw] at cN
     have hrg:w3.rangeAt w.heap.size 0 L:=fun j v hv=>by rw[cell_of_row w3 w.heap.size _ _ _ _ hx3,Nat.zero_add]; simpa using hv
     have hnewg:∀o,(w3.alloc o).cell? ⟨g.b,g.o+1,none⟩=some (.slice ca3 m cc3):=fun o=>(World.cell?_alloc_lt _ _ _ hg3').trans k1
     have hfrg:∀o,(w3.alloc o).frozen? ⟨g.b,g.o+1,none⟩=false:=fun o=>(World.frozen?_alloc_past _ _ _ hg3').trans kf1
     have und:=und29
     dsimp only
     go_wp2_with fail
     obtain rfl:=HL.out
     have hwB:w2.heap.size≤w3.heap.size:=hg3.size
     have hgB:=hM3.far
     have hxB:w.heap.size < w2.heap.size:=by omega
     refine QuietTail.regionInv (n:=10) (Inv:=WInv _ _ _ _ _ _ _ _ _ _ _ _ _ _ _ _ _ _ _ _ _ _ _ _ _ _ _ _ _ _ _ g w.heap.size p D ca3 m cc3 w2.heap.size (flat (fun i=>wrV (C i)) m) (.slice (some ⟨b,0,none⟩) n sc3) n (flat (fun i=>secV (S i)) n) w3) (by kernel_rfl) (by decide) (by kernel_rfl) ⟨_,_,_,_,_,_,_,_,_,_,rfl,by simp,by simp,by simp,by simp,by simp,by simp,by simp,by simp,by simp,by simp,⟨rfl,rfl,rfl,Nat.le_refl _,fun _ _=>rfl⟩,hwB,hM3.ss,fun _=>hM3.cs⟩ ?step ?fin
     case step=>
      rintro i o hi ho L a w' ⟨u0,u1,u2,u3,u4,u5,u6,u7,u8,u9,rfl,i0,i1,i2,i3,i4,i5,i6,i7,i8,i9,iB,iS,iO,iC⟩ hL hpre
      have hxr:=hrg
      have hg1:=k1
      generalize hxb:w.heap.size=xb at hxr hxB ⊢
      match i,hi with
      | 0,_=>
       simp at ho
       subst ho
       go_simp
       exact⟨_,u1,u2,u3,u4,u5,u6,u7,u8,u9,rfl,fun _=>rfl,kL i1 rfl,kL i2 rfl,kL i3 rfl,kL i4 rfl,kL i5 rfl,kL i6 rfl,kL i7 rfl,kL i8 rfl,kL i9 rfl,iB,iS,iO,keepL' iC rfl⟩
      | 1,_=>
       simp at ho
       subst ho
       go_simp
       exact⟨u0,_,u2,u3,u4,u5,u6,u7,u8,u9,rfl,kL i0 rfl,fun _=>rfl,kL i2 rfl,kL i3 rfl,kL i4 rfl,kL i5 rfl,kL i6 rfl,kL i7 rfl,kL i8 rfl,kL i9 rfl,iB,iS,iO,keepL' iC rfl⟩
      | 2,_=>
       simp at ho
       subst ho
       obtain rfl:=i1 (hpre 1 (by kernel_rfl))
       go_simp
       exact⟨u0,_,_,u3,u4,u5,u6,u7,u8,u9,rfl,kL i0 rfl,fun _=>rfl,fun _=>rfl,kL i3 rfl,kL i4 rfl,kL i5 rfl,kL i6 rfl,kL i7 rfl,kL i8 rfl,kL i9 rfl,iB,iS,iO,keepL' iC rfl⟩
      | 3,_=>
       simp at ho
       subst ho
       obtain rfl:=i2 (hpre 2 (by kernel_rfl))
       go_simp
       exact⟨u0,u1,_,_,u4,u5,u6,u7,u8,u9,rfl,kL i0 rfl,kL i1 rfl,fun _=>rfl,fun _=>rfl,kL i4 rfl,kL i5 rfl,kL i6 rfl,kL i7 rfl,kL i8 rfl,kL i9 rfl,iB,iS,iO,keepL' iC rfl⟩
      | 4,_=>
       simp at ho
       subst ho
       obtain rfl:=i3 (hpre 3 (by kernel_rfl))
       have k1:=(iB.cell (p:=⟨g.b,g.o+1,none⟩) hgB).trans hg1
       go_simp
       exact⟨u0,u1,u2,_,_,u5,u6,u7,u8,u9,rfl,kL i0 rfl,kL i1 rfl,kL i2 rfl,fun _=>rfl,fun _=>rfl,kL i5 rfl,kL i6 rfl,kL i7 rfl,kL i8 rfl,kL i9 rfl,iB,iS,iO,keepL' iC rfl⟩
      | 5,_=>
       simp at ho
       subst ho
       go_simp
       exact⟨u0,u1,u2,u3,u4,_,u6,u7,u8,u9,rfl,kL i0 rfl,kL i1 rfl,kL i2 rfl,kL i3 rfl,kL i4 rfl,fun _=>rfl,kL i6 rfl,kL i7 rfl,kL i8 rfl,kL i9 rfl,iB,iS,iO,keepL' iC rfl⟩
      | 6,_=>
       simp at ho
       subst ho
       have hrg:w'.rangeAt xb 0 (bl D):=fun j v hv=>(iB.cell (p:=⟨xb,0+j,none⟩) hxB).trans (hxr j v hv)
       refine wp_load_mid 47 (.tmp 5) rfl xb 0 rfl (bl D) _ hrg und29 rfl (sB D) ?_
       exact⟨u0,u1,u2,u3,u4,u5,_,u7,u8,u9,rfl,kL i0 rfl,kL i1 rfl,kL i2 rfl,kL i3 rfl,kL i4 rfl,kL i5 rfl,fun _=>rfl,kL i7 rfl,kL i8 rfl,kL i9 rfl,iB,iS,iO,keepL' iC rfl⟩
      | 7,_=>
       simp at ho
       subst ho
       obtain rfl:=i5 (hpre 5 (by kernel_rfl))
       obtain rfl:=i6 (hpre 6 (by kernel_rfl))
       refine wp_build65 p D (.tmp 37) (.tmp 38) rfl rfl rfl ?_
       exact⟨u0,u1,u2,u3,u4,_,_,_,u8,u9,rfl,kL i0 rfl,kL i1 rfl,kL i2 rfl,kL i3 rfl,kL i4 rfl,fun _=>rfl,fun _=>rfl,fun _=>rfl,kL i8 rfl,kL i9 rfl,iB,iS,iO,keepL' iC rfl⟩
      | 8,_=>
       simp at ho
       subst ho
       obtain rfl:=i7 (hpre 7 (by kernel_rfl))
       refine wp_bslice65 p D (.tmp 39) rfl rfl ?_
       exact⟨u0,u1,u2,u3,u4,u5,u6,_,_,u9,rfl,kL i0 rfl,kL i1 rfl,kL i2 rfl,kL i3 rfl,kL i4 rfl,kL i5 rfl,kL i6 rfl,fun _=>rfl,fun _=>⟨w'.heap.size,rfl,fun _=>heap_alloc_new _ _⟩,kL (fun h=>by obtain⟨b5,c5,e,h5⟩:=i9 h; exact⟨b5,c5,e,h5.alloc _⟩) rfl,iB.alloc iS _,by simp; omega,iO.alloc _,keepL' (fun h=>(iC h).alloc _) rfl⟩
      | 9,_=>
       simp at ho
       subst ho
       obtain rfl:=i4 (hpre 4 (by kernel_rfl))
       obtain⟨gb,rfl,hgb⟩:=i8 (hpre 8 (by kernel_rfl))
       have hcw:=iC hL
       have hgb':=hgb hL
       have hne:=owns_ne iO hcw (by decide)
       obtain⟨i0',hi',hz0,hz1,hz2⟩:=info_parts info_wr
       refine wp_append_lies w' (.tmp 36) (.tmp 40) 32 rfl w2.heap.size 108 i0' _ 129 136 slice_wr hi' hz0 hz1 hz2 (wr_size wr0) (by omega) _ m _ rfl hcw ⟨gb,0,none⟩ 1 1 (bw p D) rfl (wrV_length _) (World.news_of_block hgb') (wrV_one _) (by omega) (maxLen_ge (by omega)) hm1 iS _ rfl ?_
       intro b5 c5 w5 h5 hg5 _ hlt5
       have hb5:Below w2.heap.size w3 w5:=iB.grown hg5 iS (fun k hk=>(hcw.lt k hk).1)
       exact⟨u0,u1,u2,u3,_,u5,u6,u7,_,_,rfl,kL i0 rfl,kL i1 rfl,kL i2 rfl,kL i3 rfl,fun _=>rfl,kL i5 rfl,kL i6 rfl,kL i7 rfl,fun _=>⟨gb,rfl,fun h=>by simp at h⟩,fun _=>⟨b5,c5,rfl,h5⟩,hb5,by have:=hg5.size; omega,iO.kept hg5 hne,fun h=>by simp at h⟩
      | i+10,h=>omega
     case fin=>
      rintro L a w' hall ⟨u0,u1,u2,u3,u4,u5,u6,u7,u8,u9,rfl,i0,i1,i2,i3,i4,i5,i6,i7,i8,i9,iB,iS,iO,iC⟩
      obtain rfl:=i0 (hall 0 (by omega))
      obtain rfl:=i1 (hall 1 (by omega))
      obtain⟨b5,c5,rfl,h5⟩:=i9 (hall 9 (by omega))
      simp only[List.drop_succ_cons,List.drop_zero]
      have hbx:=hM3.bx.block (iB.block g hgB)
      have q1:=hbx.c1
      have qf:=hbx.fr (g.o+1)
      have hgw':=hbx.lt
      go_wp2_with fail
      go_ret
      have hb5:=h5.lt
      refine hEnd3.out _ _ (by first | trivial | rfl) hnw ⟨rfl,oT (Near.only (oT (oB hb3) hg3) (near_below iB (by omega))) (only_put _ _ _ _),some ⟨b,0,none⟩,sc3,some ⟨b5,0,none⟩,c5,hbx.s1 _,?_,?_,nb,by omega,.own (owns_put iO hgB (g.o+1) (.slice (some ⟨b5,0,none⟩) (m+1) c5)),.own (owns_put h5 hgB (g.o+1) (.slice (some ⟨b5,0,none⟩) (m+1) c5))⟩
      ·have:=lay_own (g:=g) (fun i _=>secV_length _) (owns_put iO hgB (g.o+1) (.slice (some ⟨b5,0,none⟩) (m+1) c5)) (.inl hgB)
       simpa using this
      ·have h6:w'.ownsRow w2.heap.size 108 129 (.slice (some ⟨b5,0,none⟩) (m+1) c5) (m+1) (flat (fun i=>wrV (updC C m ⟨p,D⟩ i)) (m+1)):=by rw[flat_updC]; exact h5
       have:=lay_own (g:=g) (fun i _=>wrV_length _) (owns_put h6 hgB (g.o+1) (.slice (some ⟨b5,0,none⟩) (m+1) c5)) (.inl hgB)
       simpa using this
   ·clear hM
    dsimp only
    go_wp2_with fail
    go_ret
    exact hEnd1.out _ _ (by first | trivial | rfl) ⟨rfl,oT (oB hb3) hg3,hH3⟩
end Dk
end Go.Proofs.YteaocagepfgfnaaGreatDoor
