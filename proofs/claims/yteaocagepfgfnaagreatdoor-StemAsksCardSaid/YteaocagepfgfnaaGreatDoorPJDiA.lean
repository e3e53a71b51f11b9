import Derived.Test.YteaocagepfgfnaaGreatDoorPJRw
import Derived.Test.YteaocagepfgfnaaGreatDoorPJPt
import Derived.Test.YteaocagepfgfnaaGreatDoorPAl
set_option maxRecDepth 100000
set_option maxHeartbeats 8000000
namespace Go.Proofs.YteaocagepfgfnaaGreatDoor
namespace Di
open Go.RowKit Dk Byt Eqb Rm
def homB(n:Nat)(X:Dst)(M:Tab)(p:Pt.Pn):Bool:=formedB n X.m X.C && (Rm.rightB n M.gen M.k M.F M.T && (Pt.rightB p && ((p.A == -1 || lentB (halfN n) p.A) && (p.B == -1 || lentB (halfN n) p.B))))
def tE(n:Nat)(X:Dst)(M:Tab)(x:Int):Int:=rE n X M.gen M.k M.F M.T x
def tV(n:Nat)(X:Dst)(M:Tab)(x:Int):Nat→Int:=rV n X M.gen M.k M.F M.T x
def gdB(n:Nat)(X:Dst)(M:Tab)(p:Pt.Pn)(x:Int):Bool:=decide (tE n X M x=0) && Pt.fitsB p (tV n X M x)
def cE(n:Nat)(X:Dst)(M:Tab)(p:Pt.Pn)(x:Int):Int:=if tE n X M x=0 then if Pt.fitsB p (tV n X M x) then 0 else 2 else tE n X M x
def cV(n:Nat)(X:Dst)(M:Tab)(p:Pt.Pn)(x:Int):Nat→Int:=if tE n X M x=0 then if Pt.fitsB p (tV n X M x) then tV n X M x else (fun _=>0) else tV n X M x
def hlH(e:Int):Int:=if e=0 then 1 else 0
def hlE(e:Int):Int:=if e=3 then 3 else 0
structure GR where
 V:Nat→Int
 h:Int
 e:Int
 X:Dst
 M:Tab
structure PR where
 p:Pt.Pn
 e:Int
 X:Dst
 M:Tab
def gHeal(V:Nat→Int)(R:Int × Dst × Tab):GR:=if R.1=3 then ⟨fun _=>0,0,3,R.2.1,R.2.2⟩ else ⟨V,hlH R.1,0,R.2.1,R.2.2⟩
def gRes(n:Nat)(X:Dst)(M:Tab)(p:Pt.Pn):GR:=
 if homB n X M p=false then ⟨fun _=>0,0,1,X,M⟩
 else if p.A = -1 then ⟨fun _=>0,0,0,X,M⟩
 else if X.d then ⟨fun _=>0,0,3,X,M⟩
 else if gdB n X M p p.A then ⟨tV n X M p.A,0,0,X,M⟩
 else if p.B = -1 then ⟨fun _=>0,0,2,X,M⟩
 else if gdB n X M p p.B then gHeal (tV n X M p.B) (wRes n X M p.A (tV n X M p.B))
 else ⟨fun _=>0,0,2,X,M⟩
def pRes(n:Nat)(X:Dst)(M:Tab)(V:Nat→Int)(a c:Int):PR:=
 if Pt.ofE V a c≠0 then ⟨Pt.pz,1,X,M⟩
 else if homB n X M (Pt.ofV V a c)=false then ⟨Pt.pz,1,X,M⟩
 else if (wRes n X M a V).1≠0 then ⟨Pt.pz,(wRes n X M a V).1,(wRes n X M a V).2.1,(wRes n X M a V).2.2⟩
 else if c = -1 then ⟨Pt.ofV V a c,0,(wRes n X M a V).2.1,(wRes n X M a V).2.2⟩
 else if (wRes n (wRes n X M a V).2.1 (wRes n X M a V).2.2 c V).1≠0 then ⟨Pt.pz,(wRes n (wRes n X M a V).2.1 (wRes n X M a V).2.2 c V).1,(wRes n (wRes n X M a V).2.1 (wRes n X M a V).2.2 c V).2.1,(wRes n (wRes n X M a V).2.1 (wRes n X M a V).2.2 c V).2.2⟩
 else ⟨Pt.ofV V a c,0,(wRes n (wRes n X M a V).2.1 (wRes n X M a V).2.2 c V).2.1,(wRes n (wRes n X M a V).2.1 (wRes n X M a V).2.2 c V).2.2⟩
theorem hom_parts{n:Nat}{X:Dst}{M:Tab}{p:Pt.Pn}(h:homB n X M p=true):formed n X∧Rm.rightB n M.gen M.k M.F M.T=true∧Pt.rightB p=true∧(p.A = -1∨lentB (halfN n) p.A=true)∧(p.B = -1∨lentB (halfN n) p.B=true):=by
 unfold homB at h
 simp only[Bool.and_eq_true,Bool.or_eq_true,beq_iff_eq] at h
 exact⟨h.1,h.2.1,h.2.2.1,h.2.2.2.1,h.2.2.2.2⟩
theorem rm_home{n:Nat}{X:Dst}{M:Tab}{x:Int}(hf:formed n X)(hr:Rm.rightB n M.gen M.k M.F M.T=true)(hl:lentB (halfN n) x=true):Rm.homeB n X M.gen M.k M.F M.T x=true:=by rw[home_iff hf hr,hl]
theorem t_lent{n:Nat}{X:Dst}{M:Tab}{x:Int}(hf:formed n X)(hr:Rm.rightB n M.gen M.k M.F M.T=true):(tE n X M x != 1)=lentB (halfN n) x:=by
 cases hl:lentB (halfN n) x with
 | false=>
  have:=(r_not (n:=n) (X:=X) (gen:=M.gen) (k:=M.k) (F:=M.F) (T:=M.T) (y:=x) (by rw[home_iff hf hr]; exact hl)).1
  unfold tE
  rw[this]
  rfl
 | true=>
  have hh:=rm_home hf hr hl
  cases hd:X.d with
  | false=>
   unfold tE
   rw[(rE_lk hh hd).1]
   split <;> rfl
  | true=>
   obtain⟨_,_,hl'⟩:=home_all hh
   obtain⟨a0,a1,_⟩:=at_place hr hl'
   have hok:rdOk n X.m X.C (atT M.F M.T M.k x)=true:=by
    unfold rdOk hasB
    rw[show formedB n X.m X.C=true from hf]
    simp[a0,a1]
   unfold tE rE rdE
   rw[if_pos hh,if_pos hok,hd]
   rfl
theorem t_down{n:Nat}{X:Dst}{M:Tab}{x:Int}(hf:formed n X)(hr:Rm.rightB n M.gen M.k M.F M.T=true)(hl:lentB (halfN n) x=true)(hd:X.d=true):tE n X M x=3:=by
 have hh:=rm_home (X:=X) hf hr hl
 obtain⟨a0,a1,_⟩:=at_place hr hl
 have hok:rdOk n X.m X.C (atT M.F M.T M.k x)=true:=by
  unfold rdOk hasB
  rw[show formedB n X.m X.C=true from hf]
  simp[a0,a1]
 unfold tE rE rdE
 rw[if_pos hh,if_pos hok,hd]
 rfl
theorem t_up{n:Nat}{X:Dst}{M:Tab}{x:Int}(hf:formed n X)(hr:Rm.rightB n M.gen M.k M.F M.T=true)(hl:lentB (halfN n) x=true)(hd:X.d=false):tE n X M x=0∨tE n X M x=2:=by
 have hh:=rm_home (X:=X) hf hr hl
 unfold tE
 rw[(rE_lk hh hd).1]
 split
 ·exact .inr rfl
 ·exact .inl rfl
theorem c_cases{n:Nat}{X:Dst}{M:Tab}{p:Pt.Pn}{x:Int}(hf:formed n X)(hr:Rm.rightB n M.gen M.k M.F M.T=true)(hl:lentB (halfN n) x=true) :
  (X.d=true∧cE n X M p x=3)∨(X.d=false∧gdB n X M p x=true∧cE n X M p x=0∧cV n X M p x=tV n X M x)∨(X.d=false∧gdB n X M p x=false∧cE n X M p x=2):=by
 unfold cE cV gdB
 cases hd:X.d with
 | true=>
  rw[t_down hf hr hl hd]
  exact .inl ⟨rfl,rfl⟩
 | false=>
  rcases t_up (X:=X) hf hr hl hd with e | e
  ·rw[e]
   cases Pt.fitsB p (tV n X M x) with
   | true=>exact .inr (.inl ⟨rfl,rfl,rfl,rfl⟩)
   | false=>exact .inr (.inr ⟨rfl,rfl,rfl⟩)
  ·rw[e]
   exact .inr (.inr ⟨rfl,rfl,rfl⟩)
abbrev byt(f:Nat→Int):Prop:=Rm.Bytes f
end Di
namespace Di
open Go.RowKit Dk Byt Eqb Rm
attribute [local go_sem] zv29
attribute [local go_sem] Pt.zvP
attribute [local go_sem] zc29
theorem zvS(w:World):(zeroValue 38).run Tryz.prog w=.ok (.agg #[.int .i64 0,.int .i64 0]) w:=(zero_of_info (P:=Tryz.prog) (t:=38) (v:=.agg #[.int .i64 0,.int .i64 0]) (n:=2) (by kernel_rfl)).1 w
theorem row_all{w:World}{g:Nat}{f:Nat→Int}{t:TypeId}(h:w.heap[g]?=some (.cells (bl f).toArray t (0,0))):w.rangeAt g 0 (bl f):=Pt.row_range (Pt.row_of h)
theorem results_bl{tmps:Array Value}{w:World}{B:Nat}{D:Nat→Int}{e:Int}{fn:Func}{s r:Nat}(hf:fn.results=#[.cell s 47,.tmp r])(h4:tmps.getD s undef=.pointer (some ⟨B,0,none⟩))(h5:tmps.getD r undef=.int .i64 e)
  (kV:w.heap[B]?=some (.cells (bl D).toArray 47 (0,0))):(results fn tmps).run Tryz.prog w=.ok (.tuple #[.agg (bl D).toArray,.int .i64 e]) w:=by
 have h4':tmps[s]?.getD undef=.pointer (some ⟨B,0,none⟩):=by simpa using h4
 have h5':tmps[r]?.getD undef=.int .i64 e:=by simpa using h5
 have hv:=run_loadVar_row (P:=Tryz.prog) w B 47 47 (bl D).toArray (0,0) _ kV und29 rfl (size_bl' D)
 simp[results,hf,h4',h5',asAddr,hv]
theorem results_1s{tmps:Array Value}{w:World}{B:Nat}{a b:Int}{fn:Func}{s:Nat}(hf:fn.results=#[.cell s 38])(h2:tmps.getD s undef=.pointer (some ⟨B,0,none⟩))
  (kV:w.heap[B]?=some (.cells #[.int .i64 a,.int .i64 b] 38 (0,0))):(results fn tmps).run Tryz.prog w=.ok (.agg #[.int .i64 a,.int .i64 b]) w:=by
 have h2':tmps[s]?.getD undef=.pointer (some ⟨B,0,none⟩):=by simpa using h2
 have hv:=run_loadVar_row (P:=Tryz.prog) w B 38 38 #[.int .i64 a,.int .i64 b] (0,0) _ kV (show Tryz.prog.underlying 38=some (.array 2 3) by kernel_rfl) rfl (by kernel_rfl)
 simp[results,hf,h2',asAddr,hv]
section
attribute [local go_sem] zvS
theorem sectors_any(p:Pt.Pn)(w:World):Calls Tryz.prog 103 #[.agg (Pt.pV p).toArray] w fun e w'=>e=.returned (.agg #[.int .i64 p.A,.int .i64 p.B])∧Below w.heap.size w w':=by
 obtain⟨hb0,hx0,hs0⟩:=Pt.box_pt w p
 have hx1:=(Below.heap_alloc (w.alloc (.cells (Pt.pV p).toArray 24)) (.cells #[.int .i64 0,.int .i64 0] 38) w.heap.size (by simp)).trans hx0
 have cA:=Pt.cA_pt hx1
 have cB:=Pt.cB_pt hx1
 go_enter Tryz.func103,Tryz.ntmps103
 go_wp2_with fail
 refine bodyPost_ret (results_1s rfl rfl (by have:=heap_alloc_new (w.alloc (.cells (Pt.pV p).toArray 24)) (.cells #[.int .i64 p.A,.int .i64 p.B] 38); rwa [World.size_alloc] at this)) rfl ?_
 exact⟨rfl,hb0.alloc hb0.size _⟩
end
theorem lent_d{w:World}{g:Pl}{n:Nat}{X:Dst}(h:HasD w g n X)(gen:Int)(k:Nat)(F T:Nat→Int)(pa:Option Addr)(cap q:Nat)(x:Int)(hl:Lay w w.heap.size q pa k cap 2 (prV F T))(hk:k≤140737488355328)(hF:∀i,i < k→i64 (F i)∧i64 (T i)) :
  Calls Tryz.prog 137 #[.pointer (some ⟨g.b,g.o,none⟩),.agg #[.int .i64 gen,.slice pa k cap],.int .i64 x] w fun e w'=>e=.returned (.bool (tE n X ⟨gen,k,F,T⟩ x != 1))∧Below w.heap.size w w':=by
 have HL:=Lib.hid hl
 have HD:=Lib.hid h
 have HR:=Lib.hid (fun W (h:HasD W g n X) hl=>read_d h gen k F T pa cap q x hl hk hF)
 unfold tE
 dsimp only
 clear hl h
 generalize rV n X gen k F T x=V at HR
 generalize rE n X gen k F T x=E at HR ⊢
 have hB0:Below w.heap.size w (w.alloc (.cells #[.int .i64 gen,.slice pa k cap] 37)):=(Below.refl _ _).alloc (Nat.le_refl _) _
 go_enter Tryz.func137,Tryz.ntmps137
 go_wp2_with fail
 generalize w.alloc (.cells #[.int .i64 gen,.slice pa k cap] 37)=W at hB0 ⊢
 refine(HR.out W (HD.out.below hB0) ((HL.out.below hB0).more hB0.size)).mono ?_
 rintro _ w1 ⟨rfl,hb1⟩
 have hB1:=hB0.trans (hb1.mono hB0.size)
 dsimp only
 go_wp2_with (refine wpList_store_row rfl 47 (.tmp 7) (.tmp 14) rfl w1.heap.size (bl V).toArray rfl rfl 47 _ (heap_alloc_new w1 _) (size_bl' _) rfl (bl_all _) ?_; rw[World.setRow_alloc_new]; simp only[Act.put])
 go_ret
 exact⟨rfl,hB1.alloc hB1.size _⟩
theorem results_2t{tmps:Array Value}{w:World}{a b:Value}{fn:Func}{s r:Nat}(hf:fn.results=#[.tmp s,.tmp r])(h4:tmps.getD s undef=a)(h5:tmps.getD r undef=b):(results fn tmps).run Tryz.prog w=.ok (.tuple #[a,b]) w:=by
 have h4':tmps[s]?.getD undef=a:=by simpa using h4
 have h5':tmps[r]?.getD undef=b:=by simpa using h5
 simp[results,hf,h4',h5']
def Healed(w:World)(v:Pl)(n:Nat)(R:Int × Dst × Tab)(e:Ending)(w':World):Prop:=e=.returned (.tuple #[.int .i64 (hlH R.1),.int .i64 (hlE R.1)])∧w.grownBy w' (some v.b)∧HasV w' v n R.2.1 R.2.2
theorem heal_d{w:World}{v:Pl}{n:Nat}{X:Dst}(hk:Rm.Kp w)(hok:Ok 23 X)(gen:Int)(k:Nat)(F T:Nat→Int)(hT:HasV w v n X ⟨gen,k,F,T⟩)(hm:TabOk ⟨gen,k,F,T⟩)(x:Int)(V:Nat→Int) :
  Calls Tryz.prog 105 #[.pointer (some ⟨v.b,v.o,none⟩),.pointer (some ⟨v.b,v.o+4,none⟩),.int .i64 x,.agg (bl V).toArray] w (Healed w v n (wRes n X ⟨gen,k,F,T⟩ x V)):=by
 unfold Healed
 have hB0:Below w.heap.size w (w.alloc (.cells (bl V).toArray 47)):=(Below.refl _ _).alloc (Nat.le_refl _) _
 have hv0:=row_all (heap_alloc_new w (.cells (bl V).toArray 47))
 have HW:=Lib.hid (rwrite_d (hk.below hB0) hok gen k F T (hT.below hB0) hm x V)
 unfold Wrote at HW
 clear hk hok hT hm
 generalize wRes n X ⟨gen,k,F,T⟩ x V=R at HW ⊢
 obtain⟨E,X',M'⟩:=R
 dsimp only at HW ⊢
 go_enter Tryz.func105,Tryz.ntmps105
 go_wp2_with (refine @wG _ _ _ _ _ _ _ (by kernel_rfl) 47 (.tmp 7) rfl w.heap.size 0 rfl (bl V) _ hv0 undB rfl (sB V) ?_; simp only[Act.put,aA])
 refine HW.out.mono ?_
 rintro _ w1 ⟨rfl,hT1,hD1⟩
 have hT2:w.grownBy w1 (some v.b):=Dk.oT (oB hB0) hT1
 clear hT1 hB0 hv0 HW
 dsimp only
 by_cases e0:E=0
 ·subst e0
  go_wp2_with fail
  refine bodyPost_ret (results_2t rfl rfl rfl) rfl ?_
  exact⟨rfl,hT2,hD1⟩
 ·have n0:(E == 0)=false:=by simpa using e0
  by_cases e3:E=3
  ·subst e3
   go_wp2_with fail
   refine bodyPost_ret (results_2t rfl rfl rfl) rfl ?_
   exact⟨rfl,hT2,hD1⟩
  ·have n3:(E == 3)=false:=by simpa using e3
   have HH:Hid (hlH E=0∧hlE E=0):=Lib.hid ⟨if_neg e0,if_neg e3⟩
   clear e0 e3
   go_wp2_with fail
   refine bodyPost_ret (results_2t rfl rfl rfl) rfl ?_
   exact⟨by rw[HH.out.1,HH.out.2]; rfl,hT2,hD1⟩
theorem box3(w:World)(gen:Int)(pa:Option Addr)(k cap:Nat)(p:Pt.Pn):∃W,W=((w.alloc (.cells #[.int .i64 gen,.slice pa k cap] 37)).alloc (.cells (Pt.pV p).toArray 24)).alloc (.cells (bl fun _=>0).toArray 47)∧Below w.heap.size w W∧W.heap.size=w.heap.size+3∧
  W.heap[w.heap.size]?=some (.cells #[.int .i64 gen,.slice pa k cap] 37 (0,0))∧W.heap[w.heap.size+1]?=some (.cells (Pt.pV p).toArray 24 (0,0))∧W.heap[w.heap.size+2]?=some (.cells (bl fun _=>0).toArray 47 (0,0)):=by
 refine⟨_,rfl,(((Below.refl _ _).alloc (Nat.le_refl _) _).alloc (by simp) _).alloc (by simp; omega) _,by simp,(Below.heap_alloc _ _ _ (by simp; omega)).trans ((Below.heap_alloc _ _ _ (by simp)).trans (heap_alloc_new _ _)),(Below.heap_alloc _ _ _ (by simp)).trans ?_,?_⟩
 ·have:=heap_alloc_new (w.alloc (.cells #[.int .i64 gen,.slice pa k cap] 37)) (.cells (Pt.pV p).toArray 24)
  rwa [World.size_alloc] at this
 ·have:=heap_alloc_new ((w.alloc (.cells #[.int .i64 gen,.slice pa k cap] 37)).alloc (.cells (Pt.pV p).toArray 24)) (.cells (bl fun _=>0).toArray 47)
  rwa [World.size_alloc,World.size_alloc] at this
theorem cread_d{w:World}{g:Pl}{n:Nat}{X:Dst}(h:HasD w g n X)(hkp:Rm.Kp w)(gen:Int)(k:Nat)(F T:Nat→Int)(pa:Option Addr)(cap q:Nat)(p:Pt.Pn)(x:Int)(hl:Lay w w.heap.size q pa k cap 2 (prV F T))(hk:k≤140737488355328)(hF:∀i,i < k→i64 (F i)∧i64 (T i))(hby:byt (tV n X ⟨gen,k,F,T⟩ x)) :
  Calls Tryz.prog 104 #[.pointer (some ⟨g.b,g.o,none⟩),.agg #[.int .i64 gen,.slice pa k cap],.agg (Pt.pV p).toArray,.int .i64 x] w fun e w'=>e=.returned (.tuple #[.agg (bl (cV n X ⟨gen,k,F,T⟩ p x)).toArray,.int .i64 (cE n X ⟨gen,k,F,T⟩ p x)])∧Below w.heap.size w w':=by
 have HL:=Lib.hid hl
 have HD:=Lib.hid h
 have HK:=Lib.hid (fun W (hb:Below w.heap.size w W)=>hkp.below hb)
 have HR:=Lib.hid (fun W (h:HasD W g n X) hl=>read_d h gen k F T pa cap q x hl hk hF)
 have HF:=Lib.hid (fun W (hk:Pt.Kp W)=>Pt.fits_any p (tV n X ⟨gen,k,F,T⟩ x) W hby hk)
 have HE:Hid (cE n X ⟨gen,k,F,T⟩ p x=if tE n X ⟨gen,k,F,T⟩ x=0 then if Pt.fitsB p (tV n X ⟨gen,k,F,T⟩ x) then 0 else 2 else tE n X ⟨gen,k,F,T⟩ x):=Lib.hid rfl
 have HV:Hid (cV n X ⟨gen,k,F,T⟩ p x=if tE n X ⟨gen,k,F,T⟩ x=0 then if Pt.fitsB p (tV n X ⟨gen,k,F,T⟩ x) then tV n X ⟨gen,k,F,T⟩ x else (fun _=>0) else tV n X ⟨gen,k,F,T⟩ x):=Lib.hid rfl
 change Hid (∀W,HasD W g n X→_→Calls _ _ _ W fun e w'=>e=.returned (.tuple #[.agg (bl (tV n X ⟨gen,k,F,T⟩ x)).toArray,.int .i64 (tE n X ⟨gen,k,F,T⟩ x)])∧Below W.heap.size W w') at HR
 clear hl h hkp hby
 generalize cE n X ⟨gen,k,F,T⟩ p x=CE at HE ⊢
 generalize cV n X ⟨gen,k,F,T⟩ p x=CV at HV ⊢
 generalize tE n X ⟨gen,k,F,T⟩ x=E at HR HE HV
 generalize tV n X ⟨gen,k,F,T⟩ x=V at HR HF HE HV
 generalize Pt.fitsB p V=f at HF HE HV
 obtain⟨W,hW,hB0,hs0,ht0,hp0,hz0⟩:=box3 w gen pa k cap p
 have c0:W.cell? ⟨w.heap.size,0,none⟩=some (.int .i64 gen):=by rw[cell_of_row _ _ _ _ _ _ ht0]; rfl
 have c1:W.cell? ⟨w.heap.size,1,none⟩=some (.slice pa k cap):=by rw[cell_of_row _ _ _ _ _ _ ht0]; rfl
 go_enter Tryz.func104,Tryz.ntmps104
 go_wp2_with fail
 rw[←hW]
 clear hW c0 c1 ht0
 refine(HR.out W (HD.out.below hB0) ((HL.out.below hB0).more (by omega))).mono ?_
 rintro _ w1 ⟨rfl,hb1⟩
 have hB1:=hB0.trans (hb1.mono hB0.size)
 have hp1:=(hb1.block (w.heap.size+1) (by omega)).trans hp0
 have hz1:=(hb1.block (w.heap.size+2) (by omega)).trans hz0
 have hs1:=hb1.size
 obtain⟨W2,hW2,hb2,hx2,hs2⟩:∃W2,W2=w1.alloc (.cells (bl V).toArray 47)∧Below w1.heap.size w1 W2∧W2.heap[w1.heap.size]?=some (.cells (bl V).toArray 47 (0,0))∧W2.heap.size=w1.heap.size+1:=
  ⟨_,rfl,(Below.refl _ _).alloc (Nat.le_refl _) _,heap_alloc_new _ _,by simp⟩
 have hB2:=hB1.trans (hb2.mono hB1.size)
 have hp2:=(hb2.block (w.heap.size+1) (by omega)).trans hp1
 have hz2:=(hb2.block (w.heap.size+2) (by omega)).trans hz1
 have r2:=row_all hx2
 clear hb1 hp0 hz0 hB0 hp1 hz1 hB1 HR HD HL hb2
 dsimp only
 subst hW2
 by_cases eE:E=0
 ·subst eE
  have q2:=Pt.rP hp2
  go_wp2_with (first
   | (refine wpList_store_row rfl 47 (.tmp 10) (.tmp 17) rfl w1.heap.size (bl V).toArray rfl rfl 47 _ (heap_alloc_new w1 _) (size_bl' _) rfl (bl_all _) ?_; rw[World.setRow_alloc_new]; simp only[Act.put])
   | (refine @wG _ _ _ _ _ _ _ (by kernel_rfl) 24 (.tmp 6) rfl (w.heap.size+1) 0 rfl (Pt.pV p) _ q2 Pt.undP rfl (Pt.sizeP p) ?_; simp only[Act.put,aA])
   | (refine @wG _ _ _ _ _ _ _ (by kernel_rfl) 47 (.tmp 10) rfl w1.heap.size 0 rfl (bl V) _ r2 undB rfl (sB V) ?_; simp only[Act.put,aA]))
  generalize w1.alloc (.cells (bl V).toArray 47)=W2 at hB2 hz2 hx2 hs2 ⊢
  refine(HF.out W2 (HK.out W2 hB2)).mono ?_
  rintro _ w3 ⟨rfl,hb3⟩
  have hB3:=hB2.trans (hb3.mono hB2.size)
  have hz3:=(hb3.block (w.heap.size+2) (by omega)).trans hz2
  have hx3:=(hb3.block w1.heap.size (by omega)).trans hx2
  have r3:=row_all hx3
  clear hb3 hz2 hx2 hB2 r2 q2 HF HK
  dsimp only
  cases f with
  | false=>
   go_wp2_with (first
    | (refine wpList_buildTo rfl 47 #[] rfl _ rfl (bl fun _=>0).toArray builtB ?_; simp only[Act.put,aA])
    | (refine wpList_store_row rfl 47 (.tmp 8) (.tmp 27) rfl (w.heap.size+2) (bl fun _=>0).toArray rfl rfl 47 _ hz3 (size_bl' _) rfl (bl_all _) ?_; simp only[Act.put]))
   have hr:=setRow_heap w3 (w.heap.size+2) _ (bl fun _=>0).toArray 47 (0,0) hz3
   refine bodyPost_ret (results_bl rfl rfl rfl hr) rfl ?_
   exact⟨by rw[HV.out,HE.out]; rfl,hB3.trans ⟨rfl,rfl,rfl,by simp,fun k hk=>setRow_other w3 _ k _ (by omega)⟩⟩
  | true=>
   go_wp2_with (first
    | (refine @wG _ _ _ _ _ _ _ (by kernel_rfl) 47 (.tmp 10) rfl w1.heap.size 0 rfl (bl V) _ r3 undB rfl (sB V) ?_; simp only[Act.put,aA])
    | (refine wpList_store_row rfl 47 (.tmp 8) (.tmp 28) rfl (w.heap.size+2) (bl V).toArray rfl rfl 47 _ hz3 (size_bl' _) rfl (bl_all _) ?_; simp only[Act.put]))
   have hr:=setRow_heap w3 (w.heap.size+2) _ (bl V).toArray 47 (0,0) hz3
   refine bodyPost_ret (results_bl rfl rfl rfl hr) rfl ?_
   exact⟨by rw[HV.out,HE.out]; rfl,hB3.trans ⟨rfl,rfl,rfl,by simp,fun k hk=>setRow_other w3 _ k _ (by omega)⟩⟩
 ·have ne:(E == 0)=false:=by simpa using eE
  replace HE:Hid (CE=E):=Lib.hid (by rw[HE.out,if_neg eE])
  replace HV:Hid (CV=V):=Lib.hid (by rw[HV.out,if_neg eE])
  clear eE
  go_wp2_with (first
   | (refine wpList_store_row rfl 47 (.tmp 10) (.tmp 17) rfl w1.heap.size (bl V).toArray rfl rfl 47 _ (heap_alloc_new w1 _) (size_bl' _) rfl (bl_all _) ?_; rw[World.setRow_alloc_new]; simp only[Act.put]; generalize w1.alloc (.cells (bl V).toArray 47)=W2 at hB2 hz2 hx2 hs2 r2 ⊢)
   | (refine @wG _ _ _ _ _ _ _ (by kernel_rfl) 47 (.tmp 10) rfl w1.heap.size 0 rfl (bl V) _ r2 undB rfl (sB V) ?_; simp only[Act.put,aA])
   | (refine wpList_store_row rfl 47 (.tmp 8) (.tmp 28) rfl (w.heap.size+2) (bl V).toArray rfl rfl 47 _ hz2 (size_bl' _) rfl (bl_all _) ?_; simp only[Act.put]))
  have hr:=setRow_heap W2 (w.heap.size+2) _ (bl V).toArray 47 (0,0) hz2
  refine bodyPost_ret (results_bl rfl rfl rfl hr) rfl ?_
  exact⟨by rw[HV.out,HE.out],hB2.trans ⟨rfl,rfl,rfl,by simp,fun k hk=>setRow_other W2 _ k _ (by omega)⟩⟩
end Di
end Go.Proofs.YteaocagepfgfnaaGreatDoor
