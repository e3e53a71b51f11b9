import Derived.Test.YteaocagepfgfnaaGreatDoorPJDl
import Derived.BigRegion
import Derived.Test.YteaocagepfgfnaaGreatDoorPJRb
import Derived.Test.YteaocagepfgfnaaGreatDoorPJDn
import Derived.Test.YteaocagepfgfnaaGreatDoorPAl
set_option maxRecDepth 100000
set_option maxHeartbeats 8000000
namespace Go.Proofs.YteaocagepfgfnaaGreatDoor
namespace Rm
open Go.RowKit Dk Byt
structure Dst where
 m:Nat
 S:Nat→Sec
 C:Nat→Wr
 f:Int
 d:Bool
def HasD(w:World)(g:Pl)(n:Nat)(X:Dst):Prop:=∃sa sc ca cc,Has w g sa ca n sc X.m cc X.S X.C X.f X.d
def Ok(k:Nat)(X:Dst):Prop:=(X.m+k) * 136≤140737488355328∧i64 X.f
def dWr(n:Nat)(X:Dst)(a:Int)(D:Nat→Int):Dst:=⟨wrM n X.m X.S X.C X.f X.d a,X.S,wrC n X.m X.S X.C X.f X.d a D,wrF n X.m X.C X.f X.d a,wrD n X.m X.C X.f X.d a⟩
def dWrE(n:Nat)(X:Dst)(a:Int):Int:=wrE n X.m X.S X.C X.f X.d a
def dFl(n:Nat)(X:Dst):Dst:=⟨flM n X.m X.C X.f X.d,flS n X.m X.S X.C X.f X.d,X.C,flF n X.m X.C X.f X.d,flD n X.m X.C X.f X.d⟩
def dFlE(n:Nat)(X:Dst):Int:=flE n X.m X.C X.f X.d
def Did(w:World)(g:Pl)(n:Nat)(E:Int)(X:Dst)(e:Ending)(w':World):Prop:=e=.returned (.int .i64 E)∧w.grownBy w' (some g.b)∧HasD w' g n X
theorem act_i64{f:Int}{d:Bool}(h:i64 f):i64 (actF f d):=by
 unfold i64 at *
 unfold actF
 split
 ·exact h
 ·split
  ·omega
  ·exact h
theorem Ok.wr{k n:Nat}{X:Dst}{a:Int}{D:Nat→Int}(h:Ok (k+1) X):Ok k (dWr n X a D):=by
 obtain⟨h1,h2⟩:=h
 constructor
 ·show(wrM n X.m X.S X.C X.f X.d a+k) * 136≤_
  have:wrM n X.m X.S X.C X.f X.d a≤X.m+1:=by unfold wrM; split <;> omega
  omega
 ·show i64 (wrF n X.m X.C X.f X.d a)
  unfold wrF
  split
  ·exact act_i64 h2
  ·exact h2
theorem Ok.fl{k n:Nat}{X:Dst}(h:Ok k X):Ok k (dFl n X):=by
 obtain⟨h1,h2⟩:=h
 constructor
 ·show(flM n X.m X.C X.f X.d+k) * 136≤_
  have:flM n X.m X.C X.f X.d≤X.m:=by unfold flM; split <;> omega
  omega
 ·show i64 (flF n X.m X.C X.f X.d)
  unfold flF
  split
  ·exact act_i64 h2
  ·exact h2
theorem Ok.less{k k':Nat}{X:Dst}(h:Ok k X)(hk:k'≤k):Ok k' X:=⟨by have:=h.1; omega,h.2⟩
theorem write_d{w:World}{g:Pl}{n:Nat}{X:Dst}(h:HasD w g n X)(hk:Ok 1 X)(a:Int)(D:Nat→Int):Calls Tryz.prog 92 #[.pointer (some ⟨g.b,g.o,none⟩),.int .i64 a,.agg (bl D).toArray] w (Did w g n (dWrE n X a) (dWr n X a D)):=by
 obtain⟨sa,sc,ca,cc,hh⟩:=h
 exact write_any g sa ca n sc X.m cc X.S X.C X.f X.d a D w hh hk.2 hk.1
theorem flush_d{w:World}{g:Pl}{n:Nat}{X:Dst}(h:HasD w g n X)(hk:Ok 0 X):Calls Tryz.prog 94 #[.pointer (some ⟨g.b,g.o,none⟩)] w (Did w g n (dFlE n X) (dFl n X)):=by
 obtain⟨sa,sc,ca,cc,hh⟩:=h
 exact flush_any g sa ca n sc X.m cc X.S X.C X.f X.d w hh hk.2
theorem HasD.below{w w':World}{g:Pl}{n:Nat}{X:Dst}(h:HasD w g n X)(hb:Below w.heap.size w w'):HasD w' g n X:=by
 obtain⟨sa,sc,ca,cc,hh⟩:=h
 exact⟨sa,sc,ca,cc,hh.below hb⟩
theorem HasD.lt{w:World}{g:Pl}{n:Nat}{X:Dst}(h:HasD w g n X):g < w.heap.size:=by
 obtain⟨sa,sc,ca,cc,hh⟩:=h
 exact hh.bx.lt
theorem HasD.n47{w:World}{g:Pl}{n:Nat}{X:Dst}(h:HasD w g n X):n≤140737488355328:=by
 obtain⟨sa,sc,ca,cc,hh⟩:=h
 exact hh.n47.1
def hfN(n:Nat)(X:Dst):Int:=if formedB n X.m X.C then halfN n else 0
theorem hfN_bd(n:Nat)(X:Dst):0≤hfN n X∧hfN n X≤2038:=by
 unfold hfN
 have:=halfN_bd n
 split <;> omega
theorem half_d{w:World}{g:Pl}{n:Nat}{X:Dst}(h:HasD w g n X):Calls Tryz.prog 90 #[.pointer (some ⟨g.b,g.o,none⟩)] w fun e w'=>e=.returned (.int .i64 (hfN n X))∧Below w.heap.size w w':=by
 obtain⟨sa,sc,ca,cc,hh⟩:=h
 have HH:=Lib.hid hh
 have c0:=hh.bx.c0
 have c1:=hh.bx.c1
 have c2:=hh.bx.c2
 have c3:=hh.bx.c3
 have hgl:=hh.bx.lt
 have h47:=hh.n47
 have HF:=Lib.hid (Formed_any sa ca n sc X.m cc g X.C X.f X.d w h47.1 h47.2 hh.cs)
 have HV:Hid (hfN n X=if formedB n X.m X.C then halfN n else 0):=Lib.hid rfl
 clear hh
 obtain⟨h1,h2⟩:=h47
 generalize hfN n X=V at HV ⊢
 generalize formedB n X.m X.C=b at HF HV
 cases b with
 | false=>
  go_enter Tryz.func90,Tryz.ntmps90
  go_wp2_with fail
  refine HF.out.mono ?_
  rintro _ w1 ⟨rfl,hb⟩
  dsimp only
  go_wp2_with fail
  go_ret
  exact⟨by rw[HV.out]; rfl,hb⟩
 | true=>
  go_enter Tryz.func90,Tryz.ntmps90
  go_wp2_with fail
  refine HF.out.mono ?_
  rintro _ w1 ⟨rfl,hb⟩
  have k0:=(hb.cell (p:=⟨g.b,g.o,none⟩) hgl).trans c0
  clear c0 c1 c2 c3
  dsimp only
  go_wp2_with fail
  refine(half_any n w1).mono ?_
  rintro _ w2 ⟨rfl,hb2⟩
  dsimp only
  go_wp2_with fail
  go_ret
  exact⟨by rw[HV.out]; rfl,hb.trans (hb2.mono hb.size)⟩
end Rm
namespace Rm
open Go.RowKit Dk Byt
def homeB(n:Nat)(X:Dst)(gen:Int)(k:Nat)(F T:Nat→Int)(x:Int):Bool:=decide (hfN n X≠0) && rightB n gen k F T && lentB (hfN n X) x
theorem home_d{w:World}{g:Pl}{n:Nat}{X:Dst}(h:HasD w g n X)(gen:Int)(k:Nat)(F T:Nat→Int)(pa:Option Addr)(cap q:Nat)(x:Int)(hl:Lay w w.heap.size q pa k cap 2 (prV F T))(hk:k≤140737488355328)(hF:∀i,i < k→i64 (F i)∧i64 (T i)) :
  Calls Tryz.prog 159 #[.pointer (some ⟨g.b,g.o,none⟩),.agg #[.int .i64 gen,.slice pa k cap],.int .i64 x] w fun e w'=>e=.returned (.bool (homeB n X gen k F T x))∧Below w.heap.size w w':=by
 have HL:=Lib.hid hl
 have HD:=Lib.hid h
 have hgl:=h.lt
 have h47:=h.n47
 have hb0:Below w.heap.size w (w.alloc (.cells #[.int .i64 gen,.slice pa k cap] 37)):=(Below.refl _ _).alloc (Nat.le_refl _) _
 have hx0:(w.alloc (.cells #[.int .i64 gen,.slice pa k cap] 37)).heap[w.heap.size]?=some (.cells #[.int .i64 gen,.slice pa k cap] 37 (0,0)):=heap_alloc_new _ _
 have hs0:(w.alloc (.cells #[.int .i64 gen,.slice pa k cap] 37)).heap.size=w.heap.size+1:=by simp
 have HV:Hid (homeB n X gen k F T x=(decide (hfN n X≠0) && rightB n gen k F T && lentB (hfN n X) x)):=Lib.hid rfl
 have hbd:=hfN_bd n X
 have HRI:=Lib.hid (fun W hl=>right_any n gen k F T pa cap q W hl hk hF)
 have HHA:=Lib.hid (fun W h=>half_d (w:=W) (g:=g) (n:=n) (X:=X) h)
 clear hl h
 generalize homeB n X gen k F T x=V at HV ⊢
 generalize hfN n X=hh at HV hbd HHA
 generalize rightB n gen k F T=R at HV HRI
 go_enter Tryz.func159,Tryz.ntmps159
 go_wp2_with fail
 generalize w.alloc (.cells #[.int .i64 gen,.slice pa k cap] 37)=W at hb0 hx0 hs0 ⊢
 refine(HHA.out W (HD.out.below hb0)).mono ?_
 rintro _ w1 ⟨rfl,hb1⟩
 have hx1:=(hb1.block w.heap.size (by omega)).trans hx0
 have hB:Below w.heap.size w w1:=hb0.trans (hb1.mono (by omega))
 have hl1:w.heap.size < w1.heap.size:=by have:=hb1.size; omega
 obtain⟨sa,sc,ca,cc,hH1⟩:=HD.out.below hB
 have c0:=hH1.bx.c0
 have hg1:=hH1.bx.lt
 have HC0:=Lib.hid (fun w' (hw':Below w1.heap.size w1 w')=>(hw'.cell (p:=⟨g.b,g.o,none⟩) hg1).trans c0)
 have HM0:=Lib.hid (fun w' (hw':Below w1.heap.size w1 w')=>show w'.cell? ⟨w.heap.size,0,none⟩=some (.int .i64 gen) from(hw'.cell (p:=⟨w.heap.size,0,none⟩) hl1).trans (by rw[cell_of_row _ _ _ _ _ _ hx1]; rfl))
 have HM1:=Lib.hid (fun w' (hw':Below w1.heap.size w1 w')=>show w'.cell? ⟨w.heap.size,1,none⟩=some (.slice pa k cap) from(hw'.cell (p:=⟨w.heap.size,1,none⟩) hl1).trans (by rw[cell_of_row _ _ _ _ _ _ hx1]; rfl))
 have HLY:=Lib.hid (fun w' (hw':Below w1.heap.size w1 w')=>(((HL.out.below hB).more hB.size).below hw').more hw'.size)
 clear hb0 hb1 hx0 hx1 hs0 hH1 HHA c0
 dsimp only
 go_wp2_with fail
 refine wp_region_quiet (C:=fun w'=>Below w1.heap.size w1 w') (by kernel_rfl) (by kernel_rfl) ⟨rfl,rfl,rfl,Nat.le_refl _,fun _ _=>rfl⟩ ?_
 refine q_move _ rfl rfl ?_
 simp only[Act.put,aA]
 by_cases e0:hh=0
 ·subst e0
  refine q_val (.bool false) rfl (fun w' hw'=>by go_simp) ?_
  simp only[Act.put,aA]
  refine q_move _ rfl rfl ?_
  simp only[Act.put,aA]
  iterate 7
   refine BigFrame.wpQuiet_skip rfl ?_
   simp only[Act.put,aA]
  refine q_val (.bool false) rfl (fun w' hw'=>by go_simp) ?_
  simp only[Act.put,aA]
  refine q_move _ rfl rfl ?_
  simp only[Act.put,aA]
  iterate 3
   refine BigFrame.wpQuiet_skip rfl ?_
   simp only[Act.put,aA]
  refine q_val (.bool false) rfl (fun w' hw'=>by go_simp) ?_
  simp only[Act.put,aA]
  refine q_val (.bool false) rfl (fun w' hw'=>by go_simp) ?_
  simp only[Act.put,aA]
  refine wpQuiet_nil ?_
  intro w' hw'
  go_wp2_with fail
  go_ret
  exact⟨by rw[HV.out]; rfl,hB.trans (hw'.mono hB.size)⟩
 ·have e1:(hh != 0)=true:=by simpa using e0
  have HV1:Hid (V=(R && lentB hh x)):=Lib.hid (by rw[HV.out,decide_eq_true e0]; simp)
  refine q_val (.bool true) rfl (fun w' hw'=>by go_simp) ?_
  simp only[Act.put,aA]
  refine q_move _ rfl rfl ?_
  simp only[Act.put,aA]
  refine q_val (.agg #[.int .i64 gen,.slice pa k cap]) rfl (fun w' hw'=>by have k0:=HM0.out w' hw'; have k1:=HM1.out w' hw'; go_simp) ?_
  simp only[Act.put,aA]
  refine q_move _ rfl rfl ?_
  simp only[Act.put,aA]
  refine q_val (.pointer (some ⟨g.b,g.o,none⟩)) rfl (fun w' hw'=>by go_simp) ?_
  simp only[Act.put,aA]
  refine q_val (.pointer (some ⟨g.b,g.o,none⟩)) rfl (fun w' hw'=>by go_simp) ?_
  simp only[Act.put,aA]
  refine q_val (.slice sa n sc) rfl (fun w' hw'=>by have k0:=HC0.out w' hw'; go_simp) ?_
  simp only[Act.put,aA]
  refine q_val (.int .i64 n) rfl (fun w' hw'=>by go_simp) ?_
  simp only[Act.put,aA]
  refine q_call 117 _ (.bool R) rfl (fun w'=>by go_simp) (fun w' hw'=>(HRI.out w' (HLY.out w' hw')).mono fun e w'' ⟨he,hb⟩=>⟨he,hw'.trans (hb.mono hw'.size)⟩) ?_
  simp only[Act.put,aA]
  cases R with
  | false=>
   refine q_val (.bool false) rfl (fun w' hw'=>by go_simp) ?_
   simp only[Act.put,aA]
   refine q_move _ rfl rfl ?_
   simp only[Act.put,aA]
   iterate 3
    refine BigFrame.wpQuiet_skip rfl ?_
    simp only[Act.put,aA]
   refine q_val (.bool false) rfl (fun w' hw'=>by go_simp) ?_
   simp only[Act.put,aA]
   refine q_val (.bool false) rfl (fun w' hw'=>by go_simp) ?_
   simp only[Act.put,aA]
   refine wpQuiet_nil ?_
   intro w' hw'
   go_wp2_with fail
   go_ret
   exact⟨by rw[HV1.out]; rfl,hB.trans (hw'.mono hB.size)⟩
  | true=>
   refine q_val (.bool true) rfl (fun w' hw'=>by go_simp) ?_
   simp only[Act.put,aA]
   refine q_move _ rfl rfl ?_
   simp only[Act.put,aA]
   refine q_move _ rfl rfl ?_
   simp only[Act.put,aA]
   refine q_move _ rfl rfl ?_
   simp only[Act.put,aA]
   refine q_call 145 _ (.bool (lentB hh x)) rfl (fun w'=>by go_simp) (fun w' hw'=>(lent_any hh x w' hbd.1 (by omega)).mono fun e w'' ⟨he,hb⟩=>⟨he,hw'.trans (hb.mono hw'.size)⟩) ?_
   simp only[Act.put,aA]
   refine q_val (.bool (lentB hh x)) rfl (fun w' hw'=>by go_simp) ?_
   simp only[Act.put,aA]
   refine q_val (.bool (lentB hh x)) rfl (fun w' hw'=>by go_simp) ?_
   simp only[Act.put,aA]
   refine wpQuiet_nil ?_
   intro w' hw'
   go_wp2_with fail
   go_ret
   exact⟨by rw[HV1.out]; rfl,hB.trans (hw'.mono hB.size)⟩
end Rm
namespace Rm
open Go.RowKit Dk Byt
attribute [local go_sem] zv29
attribute [local go_sem] zc29
def rV(n:Nat)(X:Dst)(gen:Int)(k:Nat)(F T:Nat→Int)(x:Int):Nat→Int:=if homeB n X gen k F T x then rdV n X.m X.S X.C X.d (atT F T k x) else fun _=>0
def rE(n:Nat)(X:Dst)(gen:Int)(k:Nat)(F T:Nat→Int)(x:Int):Int:=if homeB n X gen k F T x then rdE n X.m X.S X.C X.d (atT F T k x) else 1
theorem results_rm{tmps:Array Value}{w:World}{B:Nat}{D:Nat→Int}{e:Int}{fn:Func}(hf:fn.results=#[.cell 6 47,.tmp 7])(h4:tmps.getD 6 undef=.pointer (some ⟨B,0,none⟩))(h5:tmps.getD 7 undef=.int .i64 e)
  (kV:w.heap[B]?=some (.cells (bl D).toArray 47 (0,0))):(results fn tmps).run Tryz.prog w=.ok (.tuple #[.agg (bl D).toArray,.int .i64 e]) w:=by
 have h4':tmps[6]?.getD undef=.pointer (some ⟨B,0,none⟩):=by simpa using h4
 have h5':tmps[7]?.getD undef=.int .i64 e:=by simpa using h5
 have hv:=run_loadVar_row (P:=Tryz.prog) w B 47 47 (bl D).toArray (0,0) _ kV und29 rfl (size_bl' D)
 simp[results,hf,h4',h5',asAddr,hv]
theorem read_d{w:World}{g:Pl}{n:Nat}{X:Dst}(h:HasD w g n X)(gen:Int)(k:Nat)(F T:Nat→Int)(pa:Option Addr)(cap q:Nat)(x:Int)(hl:Lay w w.heap.size q pa k cap 2 (prV F T))(hk:k≤140737488355328)(hF:∀i,i < k→i64 (F i)∧i64 (T i)) :
  Calls Tryz.prog 138 #[.pointer (some ⟨g.b,g.o,none⟩),.agg #[.int .i64 gen,.slice pa k cap],.int .i64 x] w fun e w'=>e=.returned (.tuple #[.agg (bl (rV n X gen k F T x)).toArray,.int .i64 (rE n X gen k F T x)])∧Below w.heap.size w w':=by
 have HL:=Lib.hid hl
 have HD:=Lib.hid h
 have hgl:=h.lt
 have HVV:Hid (rV n X gen k F T x=if homeB n X gen k F T x then rdV n X.m X.S X.C X.d (atT F T k x) else fun _=>0):=Lib.hid rfl
 have HEE:Hid (rE n X gen k F T x=if homeB n X gen k F T x then rdE n X.m X.S X.C X.d (atT F T k x) else 1):=Lib.hid rfl
 have HHM:=Lib.hid (fun W (h:HasD W g n X) hl=>home_d h gen k F T pa cap q x hl hk hF)
 clear hl h
 generalize rV n X gen k F T x=V at HVV ⊢
 generalize rE n X gen k F T x=E at HEE ⊢
 generalize homeB n X gen k F T x=b at HVV HEE HHM
 go_enter Tryz.func138,Tryz.ntmps138
 go_wp2_with fail
 generalize hW:(w.alloc (.cells #[.int .i64 gen,.slice pa k cap] 37)).alloc (.cells (bl fun _=>0).toArray 47)=W
 have hB0:Below w.heap.size w W:=by rw[←hW]; exact((Below.refl _ _).alloc (Nat.le_refl _) _).alloc (by simp) _
 have hx0:W.heap[w.heap.size]?=some (.cells #[.int .i64 gen,.slice pa k cap] 37 (0,0)):=by rw[←hW]; exact(Below.heap_alloc _ _ _ (by simp)).trans (heap_alloc_new w _)
 have hr0:W.heap[w.heap.size+1]?=some (.cells (bl fun _=>0).toArray 47 (0,0)):=by
  rw[←hW]
  have:=heap_alloc_new (w.alloc (.cells #[.int .i64 gen,.slice pa k cap] 37)) (.cells (bl fun _=>0).toArray 47)
  rwa [World.size_alloc] at this
 have hs0:W.heap.size=w.heap.size+2:=by rw[←hW]; simp
 clear hW
 refine(HHM.out W (HD.out.below hB0) ((HL.out.below hB0).more (by omega))).mono ?_
 rintro _ w1 ⟨rfl,hb1⟩
 have hx1:=(hb1.block w.heap.size (by omega)).trans hx0
 have hr1:=(hb1.block (w.heap.size+1) (by omega)).trans hr0
 have hB:Below w.heap.size w w1:=hB0.trans (hb1.mono (by omega))
 have hs1:=hb1.size
 clear hB0 hb1 hx0 hr0 HHM
 dsimp only
 cases b with
 | false=>
  go_wp2_with (first
   | (refine wpList_buildTo rfl 47 #[] rfl _ rfl (bl fun _=>0).toArray built29 ?_; simp only[Act.put,aA])
   | (refine wpList_store_row rfl 47 (.tmp 6) (.tmp 13) rfl (w.heap.size+1) (bl fun _=>0).toArray rfl rfl 47 _ hr1 (size_bl' _) rfl (bl_all _) ?_; simp only[Act.put]))
  have hr2:=setRow_heap w1 (w.heap.size+1) _ (bl fun _=>0).toArray 47 (0,0) hr1
  refine bodyPost_ret (results_rm rfl rfl rfl hr2) rfl ?_
  exact⟨by rw[HVV.out,HEE.out]; rfl,hB.trans ⟨rfl,rfl,rfl,by simp,fun k hk=>setRow_other w1 _ k _ (by omega)⟩⟩
 | true=>
  have c0:w1.cell? ⟨w.heap.size,0,none⟩=some (.int .i64 gen):=by rw[cell_of_row _ _ _ _ _ _ hx1]; rfl
  have c1:w1.cell? ⟨w.heap.size,1,none⟩=some (.slice pa k cap):=by rw[cell_of_row _ _ _ _ _ _ hx1]; rfl
  clear hx1
  go_wp2_with fail
  refine(at_any gen k F T pa cap q x w1 ((HL.out.below hB).more hB.size) hk).mono ?_
  rintro _ w2 ⟨rfl,hb2⟩
  have hB2:=hB.trans (hb2.mono hB.size)
  have hr2:=(hb2.block (w.heap.size+1) (by omega)).trans hr1
  have hs2:=hb2.size
  clear c0 c1 hr1 hb2
  obtain⟨sa,sc,ca,cc,hH2⟩:=HD.out.below hB2
  dsimp only
  go_wp2_with fail
  refine(read_any g sa ca n sc X.m cc X.S X.C X.f X.d (atT F T k x) w2 hH2).mono ?_
  rintro _ w3 ⟨rfl,hb3⟩
  have HV1:Hid (V=rdV n X.m X.S X.C X.d (atT F T k x)):=Lib.hid (by rw[HVV.out]; rfl)
  have HE1:Hid (E=rdE n X.m X.S X.C X.d (atT F T k x)):=Lib.hid (by rw[HEE.out]; rfl)
  clear HVV HEE
  generalize rdV n X.m X.S X.C X.d (atT F T k x)=V' at HV1
  generalize rdE n X.m X.S X.C X.d (atT F T k x)=E' at HE1
  have hB3:=hB2.trans (hb3.mono hB2.size)
  have hr3:=(hb3.block (w.heap.size+1) (by omega)).trans hr2
  clear hr2 hb3 hH2
  dsimp only
  go_wp2_with (refine wpList_store_row rfl 47 (.tmp 6) (.tmp 19) rfl (w.heap.size+1) (bl V').toArray rfl rfl 47 _ hr3 (size_bl' _) rfl (bl_all _) ?_; simp only[Act.put])
  have hr4:=setRow_heap w3 (w.heap.size+1) _ (bl V').toArray 47 (0,0) hr3
  refine bodyPost_ret (results_rm rfl rfl rfl hr4) rfl ?_
  exact⟨by rw[HV1.out,HE1.out],hB3.trans ⟨rfl,rfl,rfl,by simp,fun k hk=>setRow_other w3 _ k _ (by omega)⟩⟩
end Rm
end Go.Proofs.YteaocagepfgfnaaGreatDoor
