import Derived.Test.YteaocagepfgfnaaGreatDoorPVlL
import Derived.Test.YteaocagepfgfnaaGreatDoorPQNv
import Derived.Test.YteaocagepfgfnaaGreatDoorPVlK
import Derived.Test.YteaocagepfgfnaaGreatDoorPStA
set_option maxRecDepth 100000
set_option maxHeartbeats 8000000
namespace Go.Proofs.YteaocagepfgfnaaGreatDoor
namespace Qv
open Go.RowKit Dk Gm Eqb Rm Di Vl
open Vm (vM nw)
open Vp (sx sx_append sx_cons sx_one sx_mem sx_len secs_one secs_two Hp sx_step sx_parts Fl ps sx_perm secs_hole ps_append)
variable {q:Qt}
structure El(q:Qt)(X:Dst)(h:Hd):Prop where
 b:Di.byt h.2
 lay:(h.1=Pt.hole∧Wd.zeroB h.2 128=true)∨(Wd.zeroB h.2 128=false∧∃a c,h.1=⟨a,c,Pt.sumD h.2⟩∧Ps q a c∧Good X h.2 a∧(c≠-1→Good X h.2 c))
structure Py(q:Qt)(X:Dst)(f:Nat→Int)(H:List Hd):Prop where
 u:Up q X
 c:Clean q X
 nv:NvV q f (sx (ps H)) Fl Fl Fl
 el:∀h,h ∈ H→El q X h
theorem rg_pl{x:Int}(h:0≤Sp.plI 28 (bq q) (zq q) x):Rg q x:=by
 have hN:=q.num
 unfold Sp.plI at h
 unfold Rg
 split at h
 ·omega
 ·split at h <;> omega
theorem NvV.perm{f:Nat→Int}{S S':List Int}{K G D:Int→Prop}(h:NvV q f S K G D)(p:S.Perm S'):NvV q f S' K G D:=
 ⟨h.bd,fun x hx=>h.ok x (p.mem_iff.2 hx),p.nodup_iff.1 h.nd,by rw[h.cnt,p.length_eq],h.kp,h.gn,h.go⟩
section
variable {X:Dst}{f:Nat→Int}{H H':List Hd}
theorem Py.perm(h:Py q X f H)(p:H.Perm H'):Py q X f H':=⟨h.u,h.c,h.nv.perm (sx_perm p),fun x hx=>h.el x (p.mem_iff.2 hx)⟩
theorem Py.form(h:Py q X f H):Sp.formB 28 (bq q) (zq q) (kq q) f=true:=h.nv.form
theorem py_start:Py q (vX1 q) (fun _=>0) []:=⟨fresh_up.2.1,fresh_up.2.2.2,nv_start,fun x hx=>by simp at hx⟩
theorem Py.hole(h:Py q X f H){D:Nat→Int}(hD:Di.byt D)(hb:Wd.zeroB D 128=true):Py q X f (H ++ [(Pt.hole,D)]):=by
 refine⟨h.u,h.c,?_,fun x hx=>?_⟩
 ·have e:sx (ps (H ++ [(Pt.hole,D)]))=sx (ps H):=by rw[ps_append,sx_append]; show _ ++ []=_; rw[List.append_nil]
  rw[e]
  exact h.nv
 ·rcases List.mem_append.1 hx with hx | hx
  ·exact h.el x hx
  ·rw[List.mem_singleton] at hx
   subst hx
   exact⟨hD,.inl ⟨rfl,hb⟩⟩
theorem secs_ps{a c:Int}(h:Ps q a c)(s:Nat→Int):a ∈ Sp.secs ⟨a,c,s⟩∧(c≠-1→c ∈ Sp.secs ⟨a,c,s⟩)∧∀x,x ∈ Sp.secs ⟨a,c,s⟩→x=a∨x=c:=by
 have ha:=h.fa.bd
 unfold Sp.secs Sp.sec1
 rw[if_neg (show a≠-1 by omega)]
 refine⟨by simp,fun hc=>by rw[if_neg hc]; simp,fun x hx=>?_⟩
 split at hx <;> simp at hx <;> omega
theorem Py.add(h:Py q X f H){c:Nat}(hc:c=1∨c=2)(hm:X.m≤90000){D:Nat→Int}(hD:Di.byt D)(hb:Wd.zeroB D 128=false) :
  (Sp.tkE 28 (bq q) (zq q) (kq q) f c=9∧Sp.tkF 28 (bq q) (zq q) (kq q) f c=f)∨
  ∃(a1 b1:Int) (X':Dst),Sp.tkp 28 (bq q) (zq q) (kq q) f c=a1∧Sp.tkq 28 (bq q) (zq q) (kq q) f c=b1∧Sp.tkE 28 (bq q) (zq q) (kq q) f c=0∧pRes (nq q) X vM (D) a1 b1=⟨⟨a1,b1,Pt.sumD (D)⟩,0,X',vM⟩∧
   Ok 23 (wRes (nq q) X vM a1 (D)).2.1∧TabOk (wRes (nq q) X vM a1 D).2.2∧(c=1→b1 = -1)∧(c=2→0≤b1)∧X'.m≤X.m+2∧Py q X' (Sp.tkF 28 (bq q) (zq q) (kq q) f c) (H ++ [(⟨a1,b1,Pt.sumD (D)⟩,D)]):=by
 rcases tk_never h.nv hc with ⟨h1,h2⟩ | ⟨p,hp,h1,h2,h3,h4,h5,h6,h7⟩
 ·exact .inl ⟨h1,h2⟩
 right
 have hsA:p.A≠-1:=by have:=hp.a; omega
 have hmA:p.A ∈ Sp.secs p:=by unfold Sp.secs Sp.sec1; rw[if_neg hsA]; simp
 have hrA:Rg q p.A:=rg_pl (h7.ok p.A (by simp[hmA])).1
 have hps:Ps q p.A p.B:=by
  refine⟨hrA,?_⟩
  by_cases hB:p.B = -1
  ·exact .inl hB
  ·have hmB:p.B ∈ Sp.secs p:=by unfold Sp.secs Sp.sec1; rw[if_neg hB]; simp
   refine .inr ⟨rg_pl (h7.ok p.B (by simp[hmB])).1,fun e=>?_⟩
   have h8:=(List.nodup_append.1 h7.nd).2.1
   rw[secs_two hsA hB,e] at h8
   simp at h8
 obtain⟨X',hres,hu,hcl,hm',hga,hgc,hold,hok2,hm2⟩:=put_res (D:=D) h.u h.c hps hm
 refine⟨p.A,p.B,X',h1,h2,h3,hres,hok2,hm2,h4,h5,hm',hu,hcl,?_,fun x hx=>?_⟩
 ·have e:sx (ps (H ++ [((⟨p.A,p.B,Pt.sumD (D)⟩:Pt.Pn),D)]))=sx (ps H) ++ Sp.secs p:=by rw[ps_append,sx_append]; show _ ++ (Sp.secs p ++ [])=_; rw[List.append_nil]
  rw[e]
  exact h7
 ·rcases List.mem_append.1 hx with hx | hx
  ·have hE:=h.el x hx
   refine⟨hE.b,?_⟩
   rcases hE.lay with hl | ⟨hz0,a,c',e,hpp,g1,g2⟩
   ·exact .inl hl
   ·obtain⟨m1,m2,_⟩:=secs_ps hpp (Pt.sumD x.2)
    have hin:∀y,y ∈ Sp.secs x.1→y≠p.A∧y≠p.B:=fun y hy=>by
     have hyS:y ∈ sx (ps H):=sx_mem (List.mem_map.2 ⟨x,hx,rfl⟩) hy
     refine⟨fun e2=>?_,fun e2=>?_⟩
     ·exact(h6 p.A hmA).1 (e2 ▸ hyS)
     ·by_cases hB:p.B = -1
      ·have:=(h.nv.ok y hyS).1
       have:=(pos_lt this).2
       omega
      ·exact(h6 p.B (by unfold Sp.secs Sp.sec1; rw[if_neg hB]; simp)).1 (e2 ▸ hyS)
    rw[e] at hin
    obtain⟨i1,i2⟩:=hin a m1
    exact .inr ⟨hz0,a,c',e,hpp,hold _ _ i1 i2 g1,fun hne=>hold _ _ (hin c' (m2 hne)).1 (hin c' (m2 hne)).2 (g2 hne)⟩
  ·rw[List.mem_singleton] at hx
   subst hx
   exact⟨hD,.inr ⟨hb,p.A,p.B,rfl,hps,hga,hgc⟩⟩
theorem us_ix(h:Py q X f H){x:Hd}(hx:x ∈ H){y:Int}(hy:y ∈ Sp.secs x.1):Sp.us (f (ix q y))=true:=(h.nv.ok y (sx_mem (List.mem_map.2 ⟨x,hx,rfl⟩) hy)).2
theorem Py.mine(h:Py q X f H){x:Hd}(hx:x ∈ H):mn (nq q) X vM 28 (bq q) (zq q) (kq q) f x.1=true:=by
 rcases (h.el x hx).lay with ⟨e,_⟩ | ⟨_,a,c,e,hp,_,_⟩
 ·rw[e]
  exact mn_hole h.u h.form
 ·obtain⟨m1,m2,_⟩:=secs_ps hp (Pt.sumD x.2)
  have:=fun y=>us_ix h hx (y:=y)
  rw[e] at this ⊢
  exact mn_up h.u h.form hp (this a m1) (fun hc=>this c (m2 hc)) _
theorem ps_parts{m:Nat}{x:Hd}(hx0:H[m]?=some x):sx (ps H)=sx (ps (H.take m)) ++ Sp.secs x.1 ++ sx (ps (H.drop (m+1))):=by
 have h1:=sx_parts (H:=ps H) (m:=m) (q:=x.1) (by unfold ps; rw[List.getElem?_map,hx0]; rfl)
 rw[h1]
 unfold ps
 rw[List.map_take,List.map_drop]
theorem dr_hole{f:Nat→Int}(hf:Sp.formB 28 (bq q) (zq q) (kq q) f=true):Sp.drE 28 (bq q) (zq q) (kq q) f Pt.hole=0∧Sp.drF 28 (bq q) (zq q) (kq q) f Pt.hole=f:=by
 have hb:Sp.drB 28 (bq q) (zq q) (kq q) f Pt.hole=true:=by rw[dr_secs hf]; rfl
 unfold Sp.drE Sp.drF
 rw[hb]
 exact⟨rfl,rfl⟩
theorem Py.drop(h:Py q X f H){m:Nat}{x:Hd}(hx0:H[m]?=some x):Sp.drE 28 (bq q) (zq q) (kq q) f x.1=0∧Py q X (Sp.drF 28 (bq q) (zq q) (kq q) f x.1) (H.take m ++ H.drop (m+1)):=by
 obtain⟨hm,hxe⟩:=List.getElem?_eq_some_iff.1 hx0
 have hx:x ∈ H:=hxe ▸ List.getElem_mem hm
 have hel:∀y,y ∈ H.take m ++ H.drop (m+1)→El q X y:=fun y hy=>by
  rcases List.mem_append.1 hy with hy | hy
  ·exact h.el y (List.mem_of_mem_take hy)
  ·exact h.el y (List.mem_of_mem_drop hy)
 have hnv:=h.nv
 rw[ps_parts hx0] at hnv
 rcases (h.el x hx).lay with ⟨e,_⟩ | ⟨_,a,c,e,hp,_,_⟩
 ·obtain⟨d1,d2⟩:=dr_hole h.form
  rw[e] at hnv ⊢
  rw[d1,d2]
  refine⟨rfl,h.u,h.c,?_,hel⟩
  rw[ps_append,sx_append]
  rwa [secs_hole,List.append_nil] at hnv
 ·have hh:Hp x.1:=by
   rw[e]
   have ha:=hp.fa.bd
   refine⟨by show 0≤a; omega,?_,by show a < 4096; omega,?_⟩
   ·show -1≤c
    rcases hp.fc with hc | ⟨hc,_⟩
    ·omega
    ·have:=hc.bd; omega
   ·show c < 4096
    rcases hp.fc with hc | ⟨hc,_⟩
    ·omega
    ·have:=hc.bd; omega
  obtain⟨d1,d2⟩:=dr_never hnv hh
  refine⟨d1,h.u,h.c,?_,hel⟩
  rw[ps_append,sx_append]
  exact d2.weak (fun _ hx=>hx) (fun _ hx=>hx.elim) (fun _ hx=>hx.elim)
theorem Py.used(h:Py q X f H):Sp.usedN 28 (bq q) (zq q) (kq q) f=(sx (ps H)).length:=h.nv.used
theorem bt_none(X:Dst):Di.byt (tV (nq q) X vM (-1)):=by
 unfold tV rV
 rw[if_neg (by unfold homeB lentB; simp)]
 exact fun i hi=>⟨by show(0:Int)≤0; omega,by show(0:Int) < 256; omega⟩
theorem Py.get(h:Py q X f H){x:Hd}(hx:x ∈ H):∃D:Nat→Int,gRes (nq q) X vM x.1=⟨D,0,0,X,vM⟩∧(∀i,i < 128→D i=x.2 i)∧Di.byt (tV (nq q) X vM x.1.A)∧Di.byt (tV (nq q) X vM x.1.B):=by
 have hE:=h.el x hx
 rcases hE.lay with ⟨e,h0⟩ | ⟨_,a,c,e,hp,g1,g2⟩
 ·have hh:homB (nq q) X vM x.1=true:=by
   rw[e]
   unfold homB
   rw[show formedB (nq q) X.m X.C=true from h.u.f,rt0 q]
   rfl
  refine⟨fun _=>0,g_hole hh (by rw[e]; rfl),fun i hi=>((Wd.zeroB_true.1 h0) i hi).symm,?_,?_⟩
  ·rw[e]; exact bt_none X
  ·rw[e]; exact bt_none X
 ·obtain⟨d1,d2⟩:=get_up h.u hp g1
  rw[e]
  refine⟨_,d1,d2,g1.bts h.u hp.fa hE.b,?_⟩
  rcases hp.fc with rfl | ⟨hc,_⟩
  ·exact bt_none X
  ·exact(g2 (by have:=hc.bd; omega)).bts h.u hc hE.b
theorem Py.back{X':Dst}{f':Nat→Int}{N:List Hd}(h:Py q X f H)(h':Py q X' f' (H ++ N)):Py q X' f H:=⟨h'.u,h'.c,h.nv,fun x hx=>h'.el x (List.mem_append_left _ hx)⟩
theorem el_i64{x:Hd}(h:El q X x):Sp.i64 x.1.A∧Sp.i64 x.1.B∧-1≤x.1.A∧x.1.A < 4096∧-1≤x.1.B∧x.1.B < 4096:=by
 unfold Sp.i64
 rcases h.lay with ⟨e,_⟩ | ⟨_,a,c,e,hp,_,_⟩
 ·rw[e]
  refine⟨?_,?_,?_,?_,?_,?_⟩ <;> decide
 ·rw[e]
  have ha:=hp.fa.bd
  have hc:-1≤c∧c < 4096:=by
   rcases hp.fc with rfl | ⟨hc,_⟩
   ·omega
   ·have:=hc.bd; omega
  dsimp only
  omega
end
end Qv
namespace Vp
open Go.RowKit Dk Gm Eqb Rm Vm Di Vl
theorem zN_0{f:Nat→Int}{a:Nat}:∀k,(∀i,i < k→f (a+i)≠0)→Sp.zN f a k=0
 | 0,_=>rfl
 | k+1,h=>by rw[Sp.zN_no (by simpa using h k (by omega)),zN_0 k fun i hi=>h i (by omega)]
theorem ff_0{A:Int}{F:Nat→Int}{z:Nat}(hA:0≤A)(h:Sp.ff A F z = -1):∀i,i < z→F i≠0:=by
 by_cases hz:Sp.fz F z < 0
 ·exact Sp.fz_none hz
 ·rw[Sp.ff_yes hz] at h
  omega
section
variable {X:Dst}{f:Nat→Int}{H:List Hd}
end
end Vp
namespace Qv
open Go.RowKit Dk Gm Eqb Rm Di Vl Byt
open Vp (ps zN_0 ff_0 Fl sx us_iff)
variable {q:Qt}
def Rm2(q:Qt)(f:Nat→Int)(n:Nat):Prop:=(n:Int)≤Sp.zN f 0 (zq q)∧(n:Int)≤Sp.zN f (zq q) (zq q)
theorem Rm2.le{f:Nat→Int}{n m:Nat}(h:Rm2 q f n)(hm:m≤n):Rm2 q f m:=⟨by have:=h.1; omega,by have:=h.2; omega⟩
theorem Rm2.zero(f:Nat→Int):Rm2 q f 0:=⟨(Sp.zN_bd f _ _).1,(Sp.zN_bd f _ _).1⟩
theorem zN_mono{f g:Nat→Int}{a:Nat}:∀k,(∀i,i < k→f (a+i)=0→g (a+i)=0)→Sp.zN f a k≤Sp.zN g a k
 | 0,_=>Int.le_refl _
 | k+1,h=>by
  have ih:=zN_mono (f:=f) (g:=g) (a:=a) k fun i hi=>h i (by omega)
  have hk:=h k (by omega)
  rw[Sp.zN,Sp.zN]
  by_cases e:f (a+k)=0
  ·rw[e,hk e]; omega
  ·rw[show(f (a+k) == 0)=false from beq_eq_false_iff_ne.2 e]
   have:((if (g (a+k) == 0)=true then 1 else 0:Int))≥0:=by split <;> omega
   simp only[Bool.false_eq_true,if_false]
   omega
theorem Rm2.mono{f g:Nat→Int}{n:Nat}(h:Rm2 q f n)(hz:∀i,i < kq q→f i=0→g i=0):Rm2 q g n:=by
 have hN:=q.num
 exact⟨Int.le_trans h.1 (zN_mono _ fun i hi=>by rw[Nat.zero_add]; exact hz i (by omega)),Int.le_trans h.2 (zN_mono _ fun i hi=>hz _ (by omega))⟩
theorem zN_put{f:Nat→Int}{a j:Nat}(z:Int):∀k,Sp.zN f a k - (if a≤j∧j < a+k then 1 else 0)≤Sp.zN (put f j z) a k
 | 0=>by simp only[Sp.zN]; split <;> omega
 | k+1=>by
  have ih:=zN_put (f:=f) (a:=a) (j:=j) z k
  rw[Sp.zN,Sp.zN]
  by_cases e:a+k=j
  ·subst e
   rw[if_pos (show a≤a+k∧a+k < a+(k+1) by omega)]
   rw[if_neg (show ¬ (a≤a+k∧a+k < a+k) by omega)] at ih
   split <;> split <;> omega
  ·rw[Vp.put_off z e]
   by_cases h:a≤j∧j < a+k
   ·rw[if_pos (show a≤j∧j < a+(k+1) by omega)]
    rw[if_pos h] at ih
    omega
   ·rw[if_neg (show ¬ (a≤j∧j < a+(k+1)) by omega)]
    rw[if_neg h] at ih
    omega
theorem Rm2.take{f:Nat→Int}{n:Nat}(hf:Sp.formB 28 (bq q) (zq q) (kq q) f=true){c:Nat}(hc:c=1∨c=2)(h:Rm2 q f (n+1)):Sp.tkE 28 (bq q) (zq q) (kq q) f c=0∧Rm2 q (Sp.tkF 28 (bq q) (zq q) (kq q) f c) n:=by
 have hN:=q.num
 have hap:Sp.Ap 28 (bq q) (zq q:Nat):=ap9
 have hA:Sp.fA 28 (zq q) f≠-1:=fun e=>by
  have:=zN_0 (f:=f) (a:=0) (zq q) fun i hi=>by rw[Nat.zero_add]; exact ff_0 (by omega) e i hi
  have:=h.1
  omega
 have hB:Sp.fB (bq q) (zq q) f≠-1:=fun e=>by
  have:=zN_0 (f:=f) (a:=zq q) (zq q) fun i hi=>ff_0 (by omega) e i hi
  have:=h.2
  omega
 have ho:Sp.tpOk 28 (bq q) (zq q) f c=true:=by
  unfold Sp.tpOk Sp.tp0 Sp.tp1
  rcases hc with rfl | rfl
  ·rw[if_pos rfl,if_neg hA]
   simp[hA]
  ·rw[if_neg (by omega),if_neg (by omega)]
   simp[hA,hB]
 obtain⟨_,_,h3,h4⟩:=Sp.tk_yes (z:=zq q) hf hc ho
 refine⟨h3,?_⟩
 have hall:=Sp.tpOk_yes ho hc
 have h4':Sp.tkF 28 (bq q) (zq q) (kq q) f c=_:=h4
 rw[h4']
 have key:∀{i j:Nat},i < zq q→zq q≤j→Rm2 q (put (put f i 2) j 2) n:=fun {i j} hi hj=>by
  constructor
  ·have e1:=zN_put (f:=f) (a:=0) (j:=i) 2 (zq q)
   have e2:=zN_put (f:=put f i 2) (a:=0) (j:=j) 2 (zq q)
   rw[if_neg (by omega)] at e2
   rw[if_pos (by omega)] at e1
   have:=h.1
   omega
  ·have e1:=zN_put (f:=f) (a:=zq q) (j:=i) 2 (zq q)
   have e2:=zN_put (f:=put f i 2) (a:=zq q) (j:=j) 2 (zq q)
   rw[if_neg (by omega)] at e1
   have:((if zq q≤j∧j < zq q+zq q then 1 else 0:Int))≤1:=by split <;> omega
   have:=h.2
   omega
 have one:∀{i:Nat},Rm2 q (put f i 2) n:=fun {i}=>by
  constructor
  ·have e1:=zN_put (f:=f) (a:=0) (j:=i) 2 (zq q)
   have:((if 0≤i∧i < 0+zq q then 1 else 0:Int))≤1:=by split <;> omega
   have:=h.1
   omega
  ·have e1:=zN_put (f:=f) (a:=zq q) (j:=i) 2 (zq q)
   have:((if zq q≤i∧i < zq q+zq q then 1 else 0:Int))≤1:=by split <;> omega
   have:=h.2
   omega
 rcases hc with rfl | rfl
 ·have n0:=hall 0 (by omega)
  have e:=Sp.tk_bec1 hap n0
  show Rm2 q (Sp.bec Sp.tkN (Sp.tpL 28 (bq q) (zq q) f 1) f 1) n
  rw[e]
  exact one
 ·have n0:=hall 0 (by omega)
  have n1:=hall 1 (by omega)
  have e:=Sp.tk_bec2 hap n0 n1
  have d0:=(Sp.tpL_at hap (.inr rfl) (show 0 < 2 by omega) n0).2.2.2 rfl
  have d1:=(Sp.tpL_at hap (.inr rfl) (show 1 < 2 by omega) n1).2.2.2 rfl
  show Rm2 q (Sp.bec Sp.tkN (Sp.tpL 28 (bq q) (zq q) f 2) f 2) n
  rw[e]
  exact key (d0.1 rfl) (d1.2 rfl)
theorem bec_nz{N:Nat→Int}{L:Nat→Nat}{f:Nat→Int}{j:Nat}(h0:f j=0):∀k:Nat,(∀i,i < k→f (L i)≠0)→Sp.bec N L f k j=0
 | 0,_=>h0
 | k+1,h=>by
  have ih:=bec_nz (N:=N) (L:=L) (f:=f) h0 k (fun i hi=>h i (by omega))
  have hne:j≠L k:=fun e=>h k (by omega) (by rw[←e]; exact h0)
  rw[Sp.bec,Vp.put_off _ hne]
  exact ih
theorem Rm2.drop{f:Nat→Int}{n:Nat}(h:Rm2 q f n)(p:Pt.Pn):Rm2 q (Sp.drF 28 (bq q) (zq q) (kq q) f p) n:=by
 refine h.mono fun j _ h0=>?_
 unfold Sp.drF
 split
 ·rename_i hb
  refine bec_nz h0 _ fun i hi=>?_
  unfold Sp.drB Sp.anyP at hb
  simp only[Bool.and_eq_true,Bool.not_eq_true',List.any_eq_false] at hb
  obtain⟨_,_,hb⟩:=hb
  have hm:(Sp.pls 28 (bq q) (zq q) p).getD i 0 ∈ Sp.pls 28 (bq q) (zq q) p:=by
   rw[List.getD_eq_getElem?_getD,List.getElem?_eq_getElem hi]
   exact List.getElem_mem hi
  have h1:=hb _ hm
  intro e
  have e':f ((Sp.pls 28 (bq q) (zq q) p).getD i 0).toNat=0:=e
  rw[e'] at h1
  exact h1 rfl
 ·exact h0
end Qv
namespace Vl
open Go.RowKit Dk Gm Eqb Rm Vm Di
theorem blk_setCells{b:Nat}{t:TypeId}:∀(vs:List Value) (o:Nat) (w:World) (cur:Array Value),w.heap[b]?=some (.cells cur t (0,0))→o+vs.length≤cur.size→
  ∃cur',(w.setCells b o vs).heap[b]?=some (.cells cur' t (0,0))∧cur'.size=cur.size∧∀j,cur'[j]?=if o≤j∧j < o+vs.length then vs[j - o]? else cur[j]?
 | [],o,w,cur,h,_=>⟨cur,h,rfl,fun j=>by rw[if_neg (by rw[List.length_nil]; omega)]⟩
 | v :: r,o,w,cur,h,hl=>by
  rw[List.length_cons] at hl
  obtain⟨cur',h1,h2,h3⟩:=blk_setCells r (o+1) (w.setCell ⟨b,o,none⟩ v) (cur.setIfInBounds o v) (heap_setCell_same w b o cur t v h) (by simp; omega)
  refine⟨cur',by rw[World.setCells]; exact h1,by rw[h2]; simp,fun j=>?_⟩
  rw[h3 j,List.length_cons]
  by_cases e:j=o
  ·subst e
   rw[if_neg (by omega),if_pos (by omega),Nat.sub_self,Array.getElem?_setIfInBounds_self_of_lt (by omega)]
   rfl
  ·rw[Array.getElem?_setIfInBounds_ne (by omega)]
   by_cases e2:o+1≤j∧j < o+1+r.length
   ·rw[if_pos e2,if_pos (by omega),show j - o=(j - (o+1))+1 by omega,List.getElem?_cons_succ]
   ·rw[if_neg e2,if_neg (by omega)]
end Vl
namespace Vl
open Go.RowKit Dk Gm Eqb Rm Vm Di
attribute [local go_sem] zv29
attribute [local go_sem] Pt.zvP
attribute [local go_sem] zc29
end Vl
namespace Vl
open Go.RowKit Dk Gm Eqb Rm Vm Di
attribute [local go_sem] zv29
attribute [local go_sem] Pt.zvP
attribute [local go_sem] zc29
end Vl
namespace Vl
open Go.RowKit Dk Gm Eqb Rm Vm Di
attribute [local go_sem] zv29
attribute [local go_sem] Pt.zvP
attribute [local go_sem] zc29
end Vl
namespace Vl
open Go.RowKit Dk Gm Eqb Rm Vm Di Vp
section
variable {X:Dst}{f:Nat→Int}{H:List Hd}
theorem al_12{c:Nat}(hc:c=1∨c=2):alB (c:Int)=true:=by rcases hc with rfl | rfl <;> rfl
end
end Vl
namespace Qv
open Go.RowKit Dk Gm Eqb Rm Di Vl Byt
open Vp (ps Fl sx sx_append sx_mem secs_one secs_two ps_append)
open Vm (vM HasVol)
variable {q:Qt}
abbrev HV(w:World)(V:Pl)(q:Qt)(X:Dst)(f:Nat→Int):Prop:=HasVol w V (nq q) X vM 28 (bq q) (zq q) (kq q) f
abbrev TV(w:World)(V:Pl)(q:Qt)(X:Dst)(f:Nat→Int)(w':World):Prop:=Tv w V (nq q) X vM 28 (bq q) (zq q) (kq q) f w'
theorem kq0(q:Qt):0 < kq q:=by have hN:=q.num; omega
section
variable {X:Dst}{f:Nat→Int}{H:List Hd}
theorem Py.fresh{y:Hd}(h:Py q X f (H ++ [y]))(hy:y.1.A≠-1):∀x,x ∈ H→x.1.A≠y.1.A:=by
 intro x hx e
 have hn:=h.nv.nd
 rw[ps_append,sx_append,List.nodup_append] at hn
 have h1:y.1.A ∈ sx (ps [y]):=sx_mem (p:=y.1) (by simp[ps]) (by unfold Sp.secs Sp.sec1; rw[if_neg hy]; simp)
 have h2:y.1.A ∈ sx (ps H):=sx_mem (p:=x.1) (List.mem_map.2 ⟨x,hx,rfl⟩) (by unfold Sp.secs Sp.sec1; rw[if_neg (by rw[e]; exact hy),e]; simp)
 exact hn.2.2 _ h2 _ h1 rfl
theorem q_add(h:Py q X f H)(hm:X.m≤90000){c:Nat}(hc:c=1∨c=2){D:Nat→Int}(hD:Di.byt D) :
  ∃(p1:Pt.Pn) (E1:Int) (X':Dst) (f':Nat→Int),X'.m≤X.m+2∧
   (∀(w:World) (V:Pl),Rm.Kp w→HV w V q X f→Calls Tryz.prog 84 #[.pointer (some ⟨V.b,V.o,none⟩),.agg (bl D).toArray,.int .i64 (c:Int)] w
    fun e w'=>e=.returned (.tuple #[.agg (Pt.pV p1).toArray,.int .i64 E1])∧TV w V q X' f' w')∧
   ((E1=0∧Py q X' f' (H ++ [(p1,D)])∧(Wd.zeroB D 128=true∧p1=Pt.hole∧f'=f∨Wd.zeroB D 128=false∧p1.A≠-1∧(p1.B = -1↔c=1))∧∀n,Rm2 q f (n+1)→Rm2 q f' n)∨
    (E1=9∧Wd.zeroB D 128=false∧X'=X∧f'=f∧¬ Rm2 q f 1)):=by
 cases hb:Wd.zeroB D 128 with
 | true=>
  refine⟨Pt.hole,0,X,f,by omega,fun w V hkp hv=>?_,.inl ⟨rfl,h.hole hD hb,.inl ⟨rfl,rfl,rfl⟩,fun n hn=>hn.le (by omega)⟩⟩
  exact(add_hole hv tabM (i64_b q) hkp D c hD (rv_up h.u h.form) (al_12 hc) (by rw[fits_hole]; exact hb)).mono fun e w' ⟨he,hb'⟩=>⟨he,Tv.of hv hb'⟩
 | false=>
  have hfh:Pt.fitsB Pt.hole D=false:=by rw[fits_hole]; exact hb
  rcases h.add hc hm hD hb with ⟨e1,e2⟩ | ⟨a1,b1,X',t1,t2,t3,hres,ok2,tm2,c1,c2,hX,hP⟩
  ·refine⟨Pt.pz,9,X,f,by omega,fun w V hkp hv=>?_,.inr ⟨rfl,rfl,rfl,rfl,fun hr=>?_⟩⟩
   ·have:=add_full hv tabM (i64_b q) hkp D c hD (rv_up h.u h.form) (al_12 hc) (kq0 q) hfh rfl (by rw[e1]; decide)
    rw[e1,e2] at this
    exact this
   ·have:=(Rm2.take (n:=0) h.form hc hr).1
    omega
  ·refine⟨_,0,X',_,hX,fun w V hkp hv=>?_,.inl ⟨rfl,hP,.inr ⟨rfl,?_,?_⟩,fun n hn=>(hn.take h.form hc).2⟩⟩
   ·exact add_ok hv tabM (i64_b q) hkp D c hD (rv_up h.u h.form) (al_12 hc) (kq0 q) (h.u.ok (by omega)) hfh rfl t3 t1 t2 hres ok2 tm2
   ·rcases (hP.el (⟨a1,b1,Pt.sumD D⟩,D) (by simp)).lay with ⟨e,hz'⟩ | ⟨_,a,c',e,hps,_,_⟩
    ·rw[hb] at hz'
     cases hz'
    ·injection e with e _ _
     have:=hps.fa.bd
     show a1≠-1
     omega
   ·show b1 = -1↔c=1
    refine⟨fun e=>?_,c1⟩
    rcases hc with rfl | rfl
    ·rfl
    ·have:=c2 rfl
     omega
theorem bl_same{D E:Nat→Int}(h:∀i,i < 128→D i=E i):bl D=bl E:=by
 unfold bl
 exact List.map_congr_left fun i hi=>by rw[h i (List.mem_range.1 hi)]
theorem q_get(h:Py q X f H)(hm:X.m≤90000){x:Hd}(hx:x ∈ H){w:World}{V:Pl}(hkp:Rm.Kp w)(hv:HV w V q X f) :
  Calls Tryz.prog 43 #[.pointer (some ⟨V.b,V.o,none⟩),.agg (Pt.pV x.1).toArray] w fun e w'=>e=.returned (.tuple #[.agg (bl x.2).toArray,.int .i64 0])∧TV w V q X f w':=by
 obtain⟨iA,iB,_⟩:=el_i64 (h.el x hx)
 obtain⟨D,hg,hD,hyA,hyB⟩:=h.get hx
 have:=get_ok hv tabM (i64_b q) hkp (h.u.ok (by omega)) (kq0 q) x.1 iA iB (h.mine hx) hyA hyB hg ⟨_,rt0 q⟩
 rwa [bl_same hD] at this
theorem q_drop(h:Py q X f H){m:Nat}{x:Hd}(hx0:H[m]?=some x):∃f',Py q X f' (H.take m ++ H.drop (m+1))∧(∀n,Rm2 q f n→Rm2 q f' n)∧
  ∀(w:World) (V:Pl),HV w V q X f→Calls Tryz.prog 106 #[.pointer (some ⟨V.b,V.o,none⟩),.agg (Pt.pV x.1).toArray] w fun e w'=>e=.returned (.int .i64 0)∧TV w V q X f' w':=by
 have hx:x ∈ H:=List.mem_of_getElem? hx0
 obtain⟨iA,iB,_⟩:=el_i64 (h.el x hx)
 obtain⟨hE,hP⟩:=h.drop hx0
 exact⟨_,hP,fun n hn=>hn.drop _,fun w V hv=>drop_ok hv tabM (i64_b q) (kq0 q) x.1 iA iB (h.mine hx) hE rfl⟩
theorem hF0:∀i,i < vM.k→Rm.i64 (vM.F i)∧Rm.i64 (vM.T i):=fun i hi=>by have:i < 0:=hi; omega
end
end Qv
namespace St
open Go.RowKit Dk Gm Eqb Rm Di Vl Qv
open Vm (vM)
inductive Tr where
 | no:Tr
 | leaf (p:Pt.Pn) (b:Nat→Int):Tr
 | node (p:Pt.Pn) (t0 t1 t2:Tr):Tr
def Tr.root:Tr→Pt.Pn
 | .no=>Pt.hole
 | .leaf p _=>p
 | .node p _ _ _=>p
def Tr.ch:Tr→Nat→Tr
 | .node _ a _ _,0=>a
 | .node _ _ b _,1=>b
 | .node _ _ _ c,2=>c
 | _,_=>.no
def Tr.rts(T:Tr)(i:Nat):Pt.Pn:=(T.ch i).root
def nb(Q:Nat→Pt.Pn):Nat→Int:=Pt.NB 3 Q 3
def p3(a b c:Pt.Pn)(i:Nat):Pt.Pn:=if i=0 then a else if i=1 then b else if i=2 then c else Pt.hole
def Tr.held:Tr→List Hd
 | .no=>[]
 | .leaf p b=>[(p,b)]
 | .node p a b c=>(p,nb (p3 a.root b.root c.root)) :: (a.held ++ b.held ++ c.held)
def Tr.ok:Nat→Tr→Prop
 | _,.no=>True
 | 0,.leaf _ b=>Wd.zeroB b 128=false
 | 0,.node ..=>False
 | _+1,.leaf ..=>False
 | d+1,.node p a b c=>Tr.ok d a∧Tr.ok d b∧Tr.ok d c∧¬ (a=.no∧b=.no∧c=.no)∧p.B≠-1
def zb:Nat→Int:=fun _=>0
def Tr.at:Nat→Tr→Nat→(Nat→Int)
 | 0,.leaf _ b,_=>b
 | 0,_,_=>zb
 | d+1,T,i=>Tr.at d (T.ch (i / wd d)) (i % wd d)
def Tr.cp(c:Int):Tr→Prop
 | .no=>True
 | .leaf p _=>(p.B = -1↔c=1)
 | .node _ a b d=>Tr.cp c a∧Tr.cp c b∧Tr.cp c d
theorem at_no:∀(d i:Nat),Tr.at d .no i=zb
 | 0,_=>rfl
 | d+1,i=>by
  have:Tr.ch .no (i / wd d)=.no:=by cases i / wd d <;> rfl
  rw[Tr.at,this]
  exact at_no d _
theorem rts_node(p:Pt.Pn)(a b c:Tr):(Tr.node p a b c).rts=p3 a.root b.root c.root:=by
 funext i
 unfold Tr.rts p3
 match i with
 | 0=>rfl
 | 1=>rfl
 | 2=>rfl
 | n+3=>simp[Tr.ch,Tr.root]
theorem rts_no:Tr.no.rts=fun _=>Pt.hole:=by
 funext i
 unfold Tr.rts
 cases i <;> rfl
theorem nb_eq(p:Pt.Pn)(a b c:Tr):nb (Tr.node p a b c).rts=nb (p3 a.root b.root c.root):=by rw[rts_node]
theorem ok_ch{d:Nat}{T:Tr}(h:T.ok (d+1))(i:Nat):(T.ch i).ok d:=by
 cases T with
 | no=>cases i <;> (cases d <;> exact trivial)
 | leaf p b=>exact h.elim
 | node p a b c=>
  obtain⟨h0,h1,h2,_⟩:=h
  match i with
  | 0=>exact h0
  | 1=>exact h1
  | 2=>exact h2
  | n+3=>cases d <;> exact trivial
theorem cp_ch{c:Int}{T:Tr}(h:T.cp c)(i:Nat):(T.ch i).cp c:=by
 cases T with
 | no=>cases i <;> exact trivial
 | leaf p b=>cases i <;> exact trivial
 | node p a b e=>
  obtain⟨h0,h1,h2⟩:=h
  match i with
  | 0=>exact h0
  | 1=>exact h1
  | 2=>exact h2
  | n+3=>exact trivial
theorem held_ch{T:Tr}{i:Nat}{x:Hd}(h:x ∈ (T.ch i).held):x ∈ T.held:=by
 cases T with
 | no=>cases i <;> exact h
 | leaf p b=>cases i <;> (exact absurd h (by simp[Tr.ch,Tr.held]))
 | node p a b c=>
  match i with
  | 0=>exact List.mem_cons_of_mem _ (List.mem_append_left _ (List.mem_append_left _ h))
  | 1=>exact List.mem_cons_of_mem _ (List.mem_append_left _ (List.mem_append_right _ h))
  | 2=>exact List.mem_cons_of_mem _ (List.mem_append_right _ h)
  | n+3=>exact absurd h (by simp[Tr.ch,Tr.held])
variable {q:Qt}{X:Dst}{f:Nat→Int}{H:List Hd}
def Tr.on(H:List Hd)(T:Tr):Prop:=∀x,x ∈ T.held→x ∈ H
theorem on_ch{T:Tr}(h:T.on H)(i:Nat):(T.ch i).on H:=fun x hx=>h x (held_ch hx)
theorem Tr.on.more{T:Tr}{N:List Hd}(h:T.on H):T.on (H ++ N):=fun x hx=>List.mem_append_left _ (h x hx)
theorem hole_A{p:Pt.Pn}(h:p.A≠-1):Pt.isHole p=false:=by
 unfold Pt.isHole Pt.eqP
 rw[show(p.A == Pt.hole.A)=false from beq_eq_false_iff_ne.2 h]
 rfl
theorem el_A{x:Hd}(h:El q X x)(hz:Wd.zeroB x.2 128=false∨x.1.B≠-1):x.1.A≠-1∧Wd.zeroB x.2 128=false∧x.1=⟨x.1.A,x.1.B,Pt.sumD x.2⟩∧Qv.Ps q x.1.A x.1.B:=by
 rcases h.lay with ⟨e,h0⟩ | ⟨h0,a,c,e,hp,_,_⟩
 ·rcases hz with hz | hz
  ·rw[h0] at hz; cases hz
  ·rw[e] at hz; exact absurd rfl hz
 ·have:=hp.fa.bd
  rw[e]
  exact⟨by show a≠-1; omega,h0,rfl,hp⟩
theorem root_A{d:Nat}{T:Tr}(hP:Py q X f H)(ho:T.ok d)(hon:T.on H)(hn:T≠.no):T.root.A≠-1∧∃b,(T.root,b) ∈ T.held∧(T.root,b) ∈ H∧Wd.zeroB b 128=false:=by
 cases T with
 | no=>exact absurd rfl hn
 | leaf p b=>
  have hm:(p,b) ∈ (Tr.leaf p b).held:=by simp[Tr.held]
  have hz:Wd.zeroB b 128=false:=by
   cases d with
   | zero=>exact ho
   | succ d=>exact ho.elim
  exact⟨(el_A (hP.el _ (hon _ hm)) (.inl hz)).1,b,hm,hon _ hm,hz⟩
 | node p a b c=>
  have hm:(p,nb (p3 a.root b.root c.root)) ∈ (Tr.node p a b c).held:=by simp[Tr.held]
  have hB:p.B≠-1:=by
   cases d with
   | zero=>exact ho.elim
   | succ d=>exact ho.2.2.2.2
  obtain⟨h1,h2,_⟩:=el_A (hP.el _ (hon _ hm)) (.inr hB)
  exact⟨h1,_,hm,hon _ hm,h2⟩
theorem isHole_hole:Pt.isHole Pt.hole=true:=Pt.eqP_same _
theorem root_hole{d:Nat}{T:Tr}(hP:Py q X f H)(ho:T.ok d)(hon:T.on H):Pt.isHole T.root=true↔T=.no:=by
 refine⟨fun h=>?_,fun h=>by rw[h]; exact isHole_hole⟩
 refine Classical.byContradiction fun hn=>?_
 rw[hole_A (root_A hP ho hon hn).1] at h
 cases h
theorem root_mine{d:Nat}{T:Tr}(hP:Py q X f H)(ho:T.ok d)(hon:T.on H):Sp.i64 T.root.A∧Sp.i64 T.root.B∧Vl.mn (nq q) X vM 28 (bq q) (zq q) (kq q) f T.root=true∧Pt.rightB T.root=true∧∀j,j < 32→0≤T.root.S j∧T.root.S j < 256:=by
 rcases Classical.em (T=.no) with hn | hn
 ·rw[hn]
  exact⟨by constructor <;> decide,by constructor <;> decide,mn_hole hP.u hP.form,rfl,fun j _=>by show(0:Int)≤0∧(0:Int) < 256; omega⟩
 ·obtain⟨hA,b,_,hm,hz⟩:=root_A hP ho hon hn
  have hE:=hP.el _ hm
  obtain⟨iA,iB,_⟩:=el_i64 hE
  obtain⟨_,_,he,hp⟩:=el_A hE (.inl hz)
  have hr:=hp.right (Pt.sumD b)
  have he':T.root=⟨T.root.A,T.root.B,Pt.sumD b⟩:=he
  refine⟨iA,iB,hP.mine hm,by rw[he']; exact hr,fun j hj=>?_⟩
  rw[he']
  show 0≤Sha.sumB _ j∧Sha.sumB _ j < 256
  unfold Sha.sumB
  omega
end St
end Go.Proofs.YteaocagepfgfnaaGreatDoor
