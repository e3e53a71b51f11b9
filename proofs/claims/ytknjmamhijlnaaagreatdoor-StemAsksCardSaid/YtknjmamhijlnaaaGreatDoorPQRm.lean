import Derived.Test.YtknjmamhijlnaaaGreatDoorPVlF
import Derived.Test.YtknjmamhijlnaaaGreatDoorPVlK
set_option maxRecDepth 100000
set_option maxHeartbeats 8000000
namespace Go.Proofs.YtknjmamhijlnaaaGreatDoor
namespace Qv
open Go.RowKit Dk Gm Eqb Rm Di Vl
open Vm (vM nw)
open Vp (sx sx_append sx_cons sx_one sx_mem sx_len secs_one secs_two Hp sx_step sx_parts Fl ps sx_perm secs_hole ps_append)
variable {q:Qt}
structure El(q:Qt)(X:Dst)(h:Hd):Prop where
 b:Di.byt h.2
 lay:(h.1=Pt.hole∧Wd.zeroB h.2 128=true)∨(Wd.zeroB h.2 128=false∧∃a c,h.1=⟨a,c,Pt.sumD h.2⟩∧Ps q a c∧Good X h.2 a∧(c≠-1→Good X h.2 c))
structure Py(q:Qt)(X:Dst)(f:Nat→Int)(H:List Hd):Prop where
 u:Up q X
 c:Clean q X
 nv:NvV q f (sx (ps H)) Fl Fl Fl
 el:∀h,h ∈ H→El q X h
theorem rg_pl{x:Int}(h:0≤Sp.plI 28 (bq q) (zq q) x):Rg q x:=by
 have hN:=q.num
 unfold Sp.plI at h
 unfold Rg
 split at h
 ·omega
 ·split at h <;> omega
theorem NvV.perm{f:Nat→Int}{S S':List Int}{K G D:Int→Prop}(h:NvV q f S K G D)(p:S.Perm S'):NvV q f S' K G D:=
 ⟨h.bd,fun x hx=>h.ok x (p.mem_iff.2 hx),p.nodup_iff.1 h.nd,by rw[h.cnt,p.length_eq],h.kp,h.gn,h.go⟩
section
variable {X:Dst}{f:Nat→Int}{H H':List Hd}
theorem Py.perm(h:Py q X f H)(p:H.Perm H'):Py q X f H':=⟨h.u,h.c,h.nv.perm (sx_perm p),fun x hx=>h.el x (p.mem_iff.2 hx)⟩
theorem Py.form(h:Py q X f H):Sp.formB 28 (bq q) (zq q) (kq q) f=true:=h.nv.form
theorem py_start:Py q (vX1 q) (fun _=>0) []:=⟨fresh_up.2.1,fresh_up.2.2.2,nv_start,fun x hx=>by simp at hx⟩
theorem Py.hole(h:Py q X f H){D:Nat→Int}(hD:Di.byt D)(hb:Wd.zeroB D 128=true):Py q X f (H ++ [(Pt.hole,D)]):=by
 refine⟨h.u,h.c,?_,fun x hx=>?_⟩
 ·have e:sx (ps (H ++ [(Pt.hole,D)]))=sx (ps H):=by rw[ps_append,sx_append]; show _ ++ []=_; rw[List.append_nil]
  rw[e]
  exact h.nv
 ·rcases List.mem_append.1 hx with hx | hx
  ·exact h.el x hx
  ·rw[List.mem_singleton] at hx
   subst hx
   exact⟨hD,.inl ⟨rfl,hb⟩⟩
theorem secs_ps{a c:Int}(h:Ps q a c)(s:Nat→Int):a ∈ Sp.secs ⟨a,c,s⟩∧(c≠-1→c ∈ Sp.secs ⟨a,c,s⟩)∧∀x,x ∈ Sp.secs ⟨a,c,s⟩→x=a∨x=c:=by
 have ha:=h.fa.bd
 unfold Sp.secs Sp.sec1
 rw[if_neg (show a≠-1 by omega)]
 refine⟨by simp,fun hc=>by rw[if_neg hc]; simp,fun x hx=>?_⟩
 split at hx <;> simp at hx <;> omega
theorem Py.add(h:Py q X f H){c:Nat}(hc:c=1∨c=2)(hm:X.m≤90000){D:Nat→Int}(hD:Di.byt D)(hb:Wd.zeroB D 128=false) :
  (Sp.tkE 28 (bq q) (zq q) (kq q) f c=9∧Sp.tkF 28 (bq q) (zq q) (kq q) f c=f)∨
  ∃(a1 b1:Int) (X':Dst),Sp.tkp 28 (bq q) (zq q) (kq q) f c=a1∧Sp.tkq 28 (bq q) (zq q) (kq q) f c=b1∧Sp.tkE 28 (bq q) (zq q) (kq q) f c=0∧pRes (nq q) X vM (D) a1 b1=⟨⟨a1,b1,Pt.sumD (D)⟩,0,X',vM⟩∧
   Ok 23 (wRes (nq q) X vM a1 (D)).2.1∧TabOk (wRes (nq q) X vM a1 D).2.2∧(c=1→b1 = -1)∧(c=2→0≤b1)∧X'.m≤X.m+2∧Py q X' (Sp.tkF 28 (bq q) (zq q) (kq q) f c) (H ++ [(⟨a1,b1,Pt.sumD (D)⟩,D)]):=by
 rcases tk_never h.nv hc with ⟨h1,h2⟩ | ⟨p,hp,h1,h2,h3,h4,h5,h6,h7⟩
 ·exact .inl ⟨h1,h2⟩
 right
 have hsA:p.A≠-1:=by have:=hp.a; omega
 have hmA:p.A ∈ Sp.secs p:=by unfold Sp.secs Sp.sec1; rw[if_neg hsA]; simp
 have hrA:Rg q p.A:=rg_pl (h7.ok p.A (by simp[hmA])).1
 have hps:Ps q p.A p.B:=by
  refine⟨hrA,?_⟩
  by_cases hB:p.B = -1
  ·exact .inl hB
  ·have hmB:p.B ∈ Sp.secs p:=by unfold Sp.secs Sp.sec1; rw[if_neg hB]; simp
   refine .inr ⟨rg_pl (h7.ok p.B (by simp[hmB])).1,fun e=>?_⟩
   have h8:=(List.nodup_append.1 h7.nd).2.1
   rw[secs_two hsA hB,e] at h8
   simp at h8
 obtain⟨X',hres,hu,hcl,hm',hga,hgc,hold,hok2,hm2⟩:=put_res (D:=D) h.u h.c hps hm
 refine⟨p.A,p.B,X',h1,h2,h3,hres,hok2,hm2,h4,h5,hm',hu,hcl,?_,fun x hx=>?_⟩
 ·have e:sx (ps (H ++ [((⟨p.A,p.B,Pt.sumD (D)⟩:Pt.Pn),D)]))=sx (ps H) ++ Sp.secs p:=by rw[ps_append,sx_append]; show _ ++ (Sp.secs p ++ [])=_; rw[List.append_nil]
  rw[e]
  exact h7
 ·rcases List.mem_append.1 hx with hx | hx
  ·have hE:=h.el x hx
   refine⟨hE.b,?_⟩
   rcases hE.lay with hl | ⟨hz0,a,c',e,hpp,g1,g2⟩
   ·exact .inl hl
   ·obtain⟨m1,m2,_⟩:=secs_ps hpp (Pt.sumD x.2)
    have hin:∀y,y ∈ Sp.secs x.1→y≠p.A∧y≠p.B:=fun y hy=>by
     have hyS:y ∈ sx (ps H):=sx_mem (List.mem_map.2 ⟨x,hx,rfl⟩) hy
     refine⟨fun e2=>?_,fun e2=>?_⟩
     ·exact(h6 p.A hmA).1 (e2 ▸ hyS)
     ·by_cases hB:p.B = -1
      ·have:=(h.nv.ok y hyS).1
       have:=(pos_lt this).2
       omega
      ·exact(h6 p.B (by unfold Sp.secs Sp.sec1; rw[if_neg hB]; simp)).1 (e2 ▸ hyS)
    rw[e] at hin
    obtain⟨i1,i2⟩:=hin a m1
    exact .inr ⟨hz0,a,c',e,hpp,hold _ _ i1 i2 g1,fun hne=>hold _ _ (hin c' (m2 hne)).1 (hin c' (m2 hne)).2 (g2 hne)⟩
  ·rw[List.mem_singleton] at hx
   subst hx
   exact⟨hD,.inr ⟨hb,p.A,p.B,rfl,hps,hga,hgc⟩⟩
theorem us_ix(h:Py q X f H){x:Hd}(hx:x ∈ H){y:Int}(hy:y ∈ Sp.secs x.1):Sp.us (f (ix q y))=true:=(h.nv.ok y (sx_mem (List.mem_map.2 ⟨x,hx,rfl⟩) hy)).2
theorem Py.mine(h:Py q X f H){x:Hd}(hx:x ∈ H):mn (nq q) X vM 28 (bq q) (zq q) (kq q) f x.1=true:=by
 rcases (h.el x hx).lay with ⟨e,_⟩ | ⟨_,a,c,e,hp,_,_⟩
 ·rw[e]
  exact mn_hole h.u h.form
 ·obtain⟨m1,m2,_⟩:=secs_ps hp (Pt.sumD x.2)
  have:=fun y=>us_ix h hx (y:=y)
  rw[e] at this ⊢
  exact mn_up h.u h.form hp (this a m1) (fun hc=>this c (m2 hc)) _
theorem ps_parts{m:Nat}{x:Hd}(hx0:H[m]?=some x):sx (ps H)=sx (ps (H.take m)) ++ Sp.secs x.1 ++ sx (ps (H.drop (m+1))):=by
 have h1:=sx_parts (H:=ps H) (m:=m) (q:=x.1) (by unfold ps; rw[List.getElem?_map,hx0]; rfl)
 rw[h1]
 unfold ps
 rw[List.map_take,List.map_drop]
theorem dr_hole{f:Nat→Int}(hf:Sp.formB 28 (bq q) (zq q) (kq q) f=true):Sp.drE 28 (bq q) (zq q) (kq q) f Pt.hole=0∧Sp.drF 28 (bq q) (zq q) (kq q) f Pt.hole=f:=by
 have hb:Sp.drB 28 (bq q) (zq q) (kq q) f Pt.hole=true:=by rw[dr_secs hf]; rfl
 unfold Sp.drE Sp.drF
 rw[hb]
 exact⟨rfl,rfl⟩
theorem Py.drop(h:Py q X f H){m:Nat}{x:Hd}(hx0:H[m]?=some x):Sp.drE 28 (bq q) (zq q) (kq q) f x.1=0∧Py q X (Sp.drF 28 (bq q) (zq q) (kq q) f x.1) (H.take m ++ H.drop (m+1)):=by
 obtain⟨hm,hxe⟩:=List.getElem?_eq_some_iff.1 hx0
 have hx:x ∈ H:=hxe ▸ List.getElem_mem hm
 have hel:∀y,y ∈ H.take m ++ H.drop (m+1)→El q X y:=fun y hy=>by
  rcases List.mem_append.1 hy with hy | hy
  ·exact h.el y (List.mem_of_mem_take hy)
  ·exact h.el y (List.mem_of_mem_drop hy)
 have hnv:=h.nv
 rw[ps_parts hx0] at hnv
 rcases (h.el x hx).lay with ⟨e,_⟩ | ⟨_,a,c,e,hp,_,_⟩
 ·obtain⟨d1,d2⟩:=dr_hole h.form
  rw[e] at hnv ⊢
  rw[d1,d2]
  refine⟨rfl,h.u,h.c,?_,hel⟩
  rw[ps_append,sx_append]
  rwa [secs_hole,List.append_nil] at hnv
 ·have hh:Hp x.1:=by
   rw[e]
   have ha:=hp.fa.bd
   refine⟨by show 0≤a; omega,?_,by show a < 4096; omega,?_⟩
   ·show -1≤c
    rcases hp.fc with hc | ⟨hc,_⟩
    ·omega
    ·have:=hc.bd; omega
   ·show c < 4096
    rcases hp.fc with hc | ⟨hc,_⟩
    ·omega
    ·have:=hc.bd; omega
  obtain⟨d1,d2⟩:=dr_never hnv hh
  refine⟨d1,h.u,h.c,?_,hel⟩
  rw[ps_append,sx_append]
  exact d2.weak (fun _ hx=>hx) (fun _ hx=>hx.elim) (fun _ hx=>hx.elim)
theorem Py.used(h:Py q X f H):Sp.usedN 28 (bq q) (zq q) (kq q) f=(sx (ps H)).length:=h.nv.used
theorem bt_none(X:Dst):Di.byt (tV (nq q) X vM (-1)):=by
 unfold tV rV
 rw[if_neg (by unfold homeB lentB; simp)]
 exact fun i hi=>⟨by show(0:Int)≤0; omega,by show(0:Int) < 256; omega⟩
theorem Py.get(h:Py q X f H){x:Hd}(hx:x ∈ H):∃D:Nat→Int,gRes (nq q) X vM x.1=⟨D,0,0,X,vM⟩∧(∀i,i < 128→D i=x.2 i)∧Di.byt (tV (nq q) X vM x.1.A)∧Di.byt (tV (nq q) X vM x.1.B):=by
 have hE:=h.el x hx
 rcases hE.lay with ⟨e,h0⟩ | ⟨_,a,c,e,hp,g1,g2⟩
 ·have hh:homB (nq q) X vM x.1=true:=by
   rw[e]
   unfold homB
   rw[show formedB (nq q) X.m X.C=true from h.u.f,rt0 q]
   rfl
  refine⟨fun _=>0,g_hole hh (by rw[e]; rfl),fun i hi=>((Wd.zeroB_true.1 h0) i hi).symm,?_,?_⟩
  ·rw[e]; exact bt_none X
  ·rw[e]; exact bt_none X
 ·obtain⟨d1,d2⟩:=get_up h.u hp g1
  rw[e]
  refine⟨_,d1,d2,g1.bts h.u hp.fa hE.b,?_⟩
  rcases hp.fc with rfl | ⟨hc,_⟩
  ·exact bt_none X
  ·exact(g2 (by have:=hc.bd; omega)).bts h.u hc hE.b
theorem Py.back{X':Dst}{f':Nat→Int}{N:List Hd}(h:Py q X f H)(h':Py q X' f' (H ++ N)):Py q X' f H:=⟨h'.u,h'.c,h.nv,fun x hx=>h'.el x (List.mem_append_left _ hx)⟩
theorem el_i64{x:Hd}(h:El q X x):Sp.i64 x.1.A∧Sp.i64 x.1.B∧-1≤x.1.A∧x.1.A < 4096∧-1≤x.1.B∧x.1.B < 4096:=by
 unfold Sp.i64
 rcases h.lay with ⟨e,_⟩ | ⟨_,a,c,e,hp,_,_⟩
 ·rw[e]
  refine⟨?_,?_,?_,?_,?_,?_⟩ <;> decide
 ·rw[e]
  have ha:=hp.fa.bd
  have hc:-1≤c∧c < 4096:=by
   rcases hp.fc with rfl | ⟨hc,_⟩
   ·omega
   ·have:=hc.bd; omega
  dsimp only
  omega
end
end Qv
namespace Vp
open Go.RowKit Dk Gm Eqb Rm Vm Di Vl
end Vp
namespace Vp
open Go.RowKit Dk Gm Eqb Rm Vm Di Vl
theorem zN_0{f:Nat→Int}{a:Nat}:∀k,(∀i,i < k→f (a+i)≠0)→Sp.zN f a k=0
 | 0,_=>rfl
 | k+1,h=>by rw[Sp.zN_no (by simpa using h k (by omega)),zN_0 k fun i hi=>h i (by omega)]
theorem ff_0{A:Int}{F:Nat→Int}{z:Nat}(hA:0≤A)(h:Sp.ff A F z = -1):∀i,i < z→F i≠0:=by
 by_cases hz:Sp.fz F z < 0
 ·exact Sp.fz_none hz
 ·rw[Sp.ff_yes hz] at h
  omega
section
variable {X:Dst}{f:Nat→Int}{H:List Hd}
end
end Vp
namespace Qv
open Go.RowKit Dk Gm Eqb Rm Di Vl Byt
open Vp (ps zN_0 ff_0 Fl sx us_iff)
variable {q:Qt}
def Rm2(q:Qt)(f:Nat→Int)(n:Nat):Prop:=(n:Int)≤Sp.zN f 0 (zq q)∧(n:Int)≤Sp.zN f (zq q) (zq q)
theorem Rm2.le{f:Nat→Int}{n m:Nat}(h:Rm2 q f n)(hm:m≤n):Rm2 q f m:=⟨by have:=h.1; omega,by have:=h.2; omega⟩
theorem Rm2.zero(f:Nat→Int):Rm2 q f 0:=⟨(Sp.zN_bd f _ _).1,(Sp.zN_bd f _ _).1⟩
theorem zN_mono{f g:Nat→Int}{a:Nat}:∀k,(∀i,i < k→f (a+i)=0→g (a+i)=0)→Sp.zN f a k≤Sp.zN g a k
 | 0,_=>Int.le_refl _
 | k+1,h=>by
  have ih:=zN_mono (f:=f) (g:=g) (a:=a) k fun i hi=>h i (by omega)
  have hk:=h k (by omega)
  rw[Sp.zN,Sp.zN]
  by_cases e:f (a+k)=0
  ·rw[e,hk e]; omega
  ·rw[show(f (a+k) == 0)=false from beq_eq_false_iff_ne.2 e]
   have:((if (g (a+k) == 0)=true then 1 else 0:Int))≥0:=by split <;> omega
   simp only[Bool.false_eq_true,if_false]
   omega
theorem Rm2.mono{f g:Nat→Int}{n:Nat}(h:Rm2 q f n)(hz:∀i,i < kq q→f i=0→g i=0):Rm2 q g n:=by
 have hN:=q.num
 exact⟨Int.le_trans h.1 (zN_mono _ fun i hi=>by rw[Nat.zero_add]; exact hz i (by omega)),Int.le_trans h.2 (zN_mono _ fun i hi=>hz _ (by omega))⟩
theorem zN_put{f:Nat→Int}{a j:Nat}(z:Int):∀k,Sp.zN f a k - (if a≤j∧j < a+k then 1 else 0)≤Sp.zN (put f j z) a k
 | 0=>by simp only[Sp.zN]; split <;> omega
 | k+1=>by
  have ih:=zN_put (f:=f) (a:=a) (j:=j) z k
  rw[Sp.zN,Sp.zN]
  by_cases e:a+k=j
  ·subst e
   rw[if_pos (show a≤a+k∧a+k < a+(k+1) by omega)]
   rw[if_neg (show ¬ (a≤a+k∧a+k < a+k) by omega)] at ih
   split <;> split <;> omega
  ·rw[Vp.put_off z e]
   by_cases h:a≤j∧j < a+k
   ·rw[if_pos (show a≤j∧j < a+(k+1) by omega)]
    rw[if_pos h] at ih
    omega
   ·rw[if_neg (show ¬ (a≤j∧j < a+(k+1)) by omega)]
    rw[if_neg h] at ih
    omega
theorem Rm2.take{f:Nat→Int}{n:Nat}(hf:Sp.formB 28 (bq q) (zq q) (kq q) f=true){c:Nat}(hc:c=1∨c=2)(h:Rm2 q f (n+1)):Sp.tkE 28 (bq q) (zq q) (kq q) f c=0∧Rm2 q (Sp.tkF 28 (bq q) (zq q) (kq q) f c) n:=by
 have hN:=q.num
 have hap:Sp.Ap 28 (bq q) (zq q:Nat):=ap9
 have hA:Sp.fA 28 (zq q) f≠-1:=fun e=>by
  have:=zN_0 (f:=f) (a:=0) (zq q) fun i hi=>by rw[Nat.zero_add]; exact ff_0 (by omega) e i hi
  have:=h.1
  omega
 have hB:Sp.fB (bq q) (zq q) f≠-1:=fun e=>by
  have:=zN_0 (f:=f) (a:=zq q) (zq q) fun i hi=>ff_0 (by omega) e i hi
  have:=h.2
  omega
 have ho:Sp.tpOk 28 (bq q) (zq q) f c=true:=by
  unfold Sp.tpOk Sp.tp0 Sp.tp1
  rcases hc with rfl | rfl
  ·rw[if_pos rfl,if_neg hA]
   simp[hA]
  ·rw[if_neg (by omega),if_neg (by omega)]
   simp[hA,hB]
 obtain⟨_,_,h3,h4⟩:=Sp.tk_yes (z:=zq q) hf hc ho
 refine⟨h3,?_⟩
 have hall:=Sp.tpOk_yes ho hc
 have h4':Sp.tkF 28 (bq q) (zq q) (kq q) f c=_:=h4
 rw[h4']
 have key:∀{i j:Nat},i < zq q→zq q≤j→Rm2 q (put (put f i 2) j 2) n:=fun {i j} hi hj=>by
  constructor
  ·have e1:=zN_put (f:=f) (a:=0) (j:=i) 2 (zq q)
   have e2:=zN_put (f:=put f i 2) (a:=0) (j:=j) 2 (zq q)
   rw[if_neg (by omega)] at e2
   rw[if_pos (by omega)] at e1
   have:=h.1
   omega
  ·have e1:=zN_put (f:=f) (a:=zq q) (j:=i) 2 (zq q)
   have e2:=zN_put (f:=put f i 2) (a:=zq q) (j:=j) 2 (zq q)
   rw[if_neg (by omega)] at e1
   have:((if zq q≤j∧j < zq q+zq q then 1 else 0:Int))≤1:=by split <;> omega
   have:=h.2
   omega
 have one:∀{i:Nat},Rm2 q (put f i 2) n:=fun {i}=>by
  constructor
  ·have e1:=zN_put (f:=f) (a:=0) (j:=i) 2 (zq q)
   have:((if 0≤i∧i < 0+zq q then 1 else 0:Int))≤1:=by split <;> omega
   have:=h.1
   omega
  ·have e1:=zN_put (f:=f) (a:=zq q) (j:=i) 2 (zq q)
   have:((if zq q≤i∧i < zq q+zq q then 1 else 0:Int))≤1:=by split <;> omega
   have:=h.2
   omega
 rcases hc with rfl | rfl
 ·have n0:=hall 0 (by omega)
  have e:=Sp.tk_bec1 hap n0
  show Rm2 q (Sp.bec Sp.tkN (Sp.tpL 28 (bq q) (zq q) f 1) f 1) n
  rw[e]
  exact one
 ·have n0:=hall 0 (by omega)
  have n1:=hall 1 (by omega)
  have e:=Sp.tk_bec2 hap n0 n1
  have d0:=(Sp.tpL_at hap (.inr rfl) (show 0 < 2 by omega) n0).2.2.2 rfl
  have d1:=(Sp.tpL_at hap (.inr rfl) (show 1 < 2 by omega) n1).2.2.2 rfl
  show Rm2 q (Sp.bec Sp.tkN (Sp.tpL 28 (bq q) (zq q) f 2) f 2) n
  rw[e]
  exact key (d0.1 rfl) (d1.2 rfl)
theorem bec_nz{N:Nat→Int}{L:Nat→Nat}{f:Nat→Int}{j:Nat}(h0:f j=0):∀k:Nat,(∀i,i < k→f (L i)≠0)→Sp.bec N L f k j=0
 | 0,_=>h0
 | k+1,h=>by
  have ih:=bec_nz (N:=N) (L:=L) (f:=f) h0 k (fun i hi=>h i (by omega))
  have hne:j≠L k:=fun e=>h k (by omega) (by rw[←e]; exact h0)
  rw[Sp.bec,Vp.put_off _ hne]
  exact ih
theorem Rm2.drop{f:Nat→Int}{n:Nat}(h:Rm2 q f n)(p:Pt.Pn):Rm2 q (Sp.drF 28 (bq q) (zq q) (kq q) f p) n:=by
 refine h.mono fun j _ h0=>?_
 unfold Sp.drF
 split
 ·rename_i hb
  refine bec_nz h0 _ fun i hi=>?_
  unfold Sp.drB Sp.anyP at hb
  simp only[Bool.and_eq_true,Bool.not_eq_true',List.any_eq_false] at hb
  obtain⟨_,_,hb⟩:=hb
  have hm:(Sp.pls 28 (bq q) (zq q) p).getD i 0 ∈ Sp.pls 28 (bq q) (zq q) p:=by
   rw[List.getD_eq_getElem?_getD,List.getElem?_eq_getElem hi]
   exact List.getElem_mem hi
  have h1:=hb _ hm
  intro e
  have e':f ((Sp.pls 28 (bq q) (zq q) p).getD i 0).toNat=0:=e
  rw[e'] at h1
  exact h1 rfl
 ·exact h0
end Qv
namespace Vl
open Go.RowKit Dk Gm Eqb Rm Vm Di
theorem blk_setCells{b:Nat}{t:TypeId}:∀(vs:List Value) (o:Nat) (w:World) (cur:Array Value),w.heap[b]?=some (.cells cur t (0,0))→o+vs.length≤cur.size→
  ∃cur',(w.setCells b o vs).heap[b]?=some (.cells cur' t (0,0))∧cur'.size=cur.size∧∀j,cur'[j]?=if o≤j∧j < o+vs.length then vs[j - o]? else cur[j]?
 | [],o,w,cur,h,_=>⟨cur,h,rfl,fun j=>by rw[if_neg (by rw[List.length_nil]; omega)]⟩
 | v :: r,o,w,cur,h,hl=>by
  rw[List.length_cons] at hl
  obtain⟨cur',h1,h2,h3⟩:=blk_setCells r (o+1) (w.setCell ⟨b,o,none⟩ v) (cur.setIfInBounds o v) (heap_setCell_same w b o cur t v h) (by simp; omega)
  refine⟨cur',by rw[World.setCells]; exact h1,by rw[h2]; simp,fun j=>?_⟩
  rw[h3 j,List.length_cons]
  by_cases e:j=o
  ·subst e
   rw[if_neg (by omega),if_pos (by omega),Nat.sub_self,Array.getElem?_setIfInBounds_self_of_lt (by omega)]
   rfl
  ·rw[Array.getElem?_setIfInBounds_ne (by omega)]
   by_cases e2:o+1≤j∧j < o+1+r.length
   ·rw[if_pos e2,if_pos (by omega),show j - o=(j - (o+1))+1 by omega,List.getElem?_cons_succ]
   ·rw[if_neg e2,if_neg (by omega)]
end Vl
namespace Vl
open Go.RowKit Dk Gm Eqb Rm Vm Di
attribute [local go_sem] zv29
attribute [local go_sem] Pt.zvP
attribute [local go_sem] zc29
section
variable {base:World}{V:Pl}{n:Nat}{X:Dst}{M:Tab}{A B Z:Int}{k:Nat}{f f':Nat→Int}{E:Int}{p:Pt.Pn}{bp bn:Nat}{L:Nat→Bool}{u0 u1 u2 u3 u4:Value}{w' w'':World}
end
end Vl
namespace Vl
open Go.RowKit Dk Gm Eqb Rm Vm Di
attribute [local go_sem] zv29
attribute [local go_sem] Pt.zvP
attribute [local go_sem] zc29
end Vl
namespace Vl
open Go.RowKit Dk Gm Eqb Rm Vm Di
attribute [local go_sem] zv29
attribute [local go_sem] Pt.zvP
attribute [local go_sem] zc29
end Vl
namespace Vl
open Go.RowKit Dk Gm Eqb Rm Vm Di
attribute [local go_sem] zv29
attribute [local go_sem] Pt.zvP
attribute [local go_sem] zc29
end Vl
namespace Vl
open Go.RowKit Dk Gm Eqb Rm Vm Di Vp
section
variable {X:Dst}{f:Nat→Int}{H:List Hd}
theorem al_12{c:Nat}(hc:c=1∨c=2):alB (c:Int)=true:=by rcases hc with rfl | rfl <;> rfl
end
end Vl
end Go.Proofs.YtknjmamhijlnaaaGreatDoor
