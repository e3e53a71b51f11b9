import Derived.Test.YteaocagepfgfnaaGreatDoorPSpDrM
import Derived.Test.YteaocagepfgfnaaGreatDoorPVlL
set_option maxRecDepth 100000
set_option maxHeartbeats 8000000
namespace Go.Proofs.YteaocagepfgfnaaGreatDoor
namespace Qv
open Go.RowKit Dk Eqb Byt Sp
open Vp (put_at put_off usN_far usN_put us_iff usN_same five sx sx_append sx_cons sx_one sx_mem sx_len secs_one secs_two Hp sx_step sx_parts held_ne held_right)
def Qt:={q:Nat // 4≤q∧q≤900}
def nq(q:Qt):Nat:=4 * q.1+316
def zq(q:Qt):Nat:=2 * q.1+120
def bq(q:Qt):Int:=2 * (q.1:Int)+176
def kq(q:Qt):Nat:=4 * q.1+240
theorem Qt.num(q:Qt):(nq q:Int)=4 * (q.1:Int)+316∧(zq q:Int)=2 * (q.1:Int)+120∧bq q=2 * (q.1:Int)+176∧(kq q:Int)=4 * (q.1:Int)+240∧4≤(q.1:Int)∧(q.1:Int)≤900:=by
 have:=q.2
 unfold nq zq bq kq
 omega
variable {q:Qt}
theorem ap9:Ap 28 (bq q) (zq q):=by
 have hN:=q.num
 exact⟨by omega,by omega,by omega,by omega,by omega⟩
def pos(q:Qt)(x:Int):Nat:=(plI 28 (bq q) (zq q) x).toNat
theorem pos_lt{x:Int}(h:0≤plI 28 (bq q) (zq q) x):pos q x < kq q∧28≤x∧x < 4 * (q.1:Int)+296:=by
 have hN:=q.num
 have h1:=plI_lt (x:=x) (ap9 (q:=q))
 unfold pos
 refine⟨by omega,?_⟩
 unfold plI at h
 split at h
 ·omega
 ·split at h <;> omega
theorem pos_ne{x y:Int}(h:0≤plI 28 (bq q) (zq q) x)(h2:0≤plI 28 (bq q) (zq q) y)(hne:x≠y):pos q x≠pos q y:=by
 intro he
 unfold pos at he
 exact hne (plI_inj (ap9 (q:=q)) h (by omega))
structure NvV(q:Qt)(f:Nat→Int)(S:List Int)(K G D:Int→Prop):Prop where
 bd:∀i,i < kq q→0≤f i∧f i≤4
 ok:∀x,x ∈ S→0≤plI 28 (bq q) (zq q) x∧us (f (pos q x))=true
 nd:S.Nodup
 cnt:usN f (kq q)=S.length
 kp:∀x,K x→0≤plI 28 (bq q) (zq q) x∧(f (pos q x)=1∨f (pos q x)=3)
 gn:∀x,G x→0≤plI 28 (bq q) (zq q) x∧f (pos q x)=3
 go:∀x,D x→0≤plI 28 (bq q) (zq q) x∧(f (pos q x)=3∨f (pos q x)=4)
section
variable {f:Nat→Int}{S S1 S2:List Int}{K G D:Int→Prop}
theorem NvV.form(h:NvV q f S K G D):formB 28 (bq q) (zq q) (kq q) f=true:=by
 have hN:=q.num
 exact formB_iff.2 ⟨by omega,by omega,fun i hi=>(h.bd i hi).2⟩
theorem NvV.used(h:NvV q f S K G D):usedN 28 (bq q) (zq q) (kq q) f=S.length:=by unfold usedN; rw[h.form]; exact h.cnt
theorem NvV.free(h:NvV q f S K G D){x:Int}(hx:f (pos q x)=0):x ∉ S∧¬ G x∧¬ D x:=by
 refine⟨fun hm=>?_,fun hm=>?_,fun hm=>?_⟩
 ·have:=(h.ok x hm).2
  rw[hx] at this
  exact absurd this (by decide)
 ·have:=(h.gn x hm).2; omega
 ·have:=(h.go x hm).2; omega
theorem NvV.take(h:NvV q f S K G D){a:Int}(ha:0≤plI 28 (bq q) (zq q) a)(h0:f (pos q a)=0):NvV q (put f (pos q a) (tkN (f (pos q a)).toNat)) (S ++ [a]) K G D:=by
 have hz:tkN (f (pos q a)).toNat=2:=by rw[h0]; rfl
 rw[hz]
 have hoff:∀x,0≤plI 28 (bq q) (zq q) x→f (pos q x)≠0→put f (pos q a) 2 (pos q x)=f (pos q x):=fun x hx hn=>put_off 2 (by
  intro e
  rw[e,h0] at hn
  exact hn rfl)
 refine⟨fun i hi=>?_,fun x hx=>?_,?_,?_,fun x hx=>?_,fun x hx=>?_,fun x hx=>?_⟩
 ·by_cases e:i=pos q a
  ·rw[e,put_at]; omega
  ·rw[put_off 2 e]; exact h.bd i hi
 ·rw[List.mem_append,List.mem_singleton] at hx
  rcases hx with hx | rfl
  ·obtain⟨h1,h2⟩:=h.ok x hx
   exact⟨h1,by rw[hoff x h1 (by have:=us_iff.1 h2; omega)]; exact h2⟩
  ·exact⟨ha,by rw[put_at]; rfl⟩
 ·rw[List.nodup_append]
  refine⟨h.nd,by simp,fun x hx y hy=>?_⟩
  rw[List.mem_singleton] at hy
  subst hy
  rintro rfl
  exact(h.free h0).1 hx
 ·rw[usN_put f (pos q a) 2 (kq q) (pos_lt ha).1,h0,h.cnt,List.length_append]
  show(S.length:Int) - 0+1=_
  simp
 ·obtain⟨h1,h2⟩:=h.kp x hx
  rw[hoff x h1 (by omega)]
  exact⟨h1,h2⟩
 ·obtain⟨h1,h2⟩:=h.gn x hx
  rw[hoff x h1 (by omega)]
  exact⟨h1,h2⟩
 ·obtain⟨h1,h2⟩:=h.go x hx
  rw[hoff x h1 (by omega)]
  exact⟨h1,h2⟩
theorem NvV.drop{a:Int}(h:NvV q f (S1 ++ a :: S2) K G D):NvV q (put f (pos q a) (drN (f (pos q a)).toNat)) (S1 ++ S2) K (fun x=>G x∨(K x∧x=a)) (fun x=>D x∨x=a):=by
 obtain⟨ha,hu⟩:=h.ok a (by simp)
 have hu':=us_iff.1 hu
 have hz:drN (f (pos q a)).toNat=if f (pos q a)=1 then 3 else 4:=by
  rcases hu' with e | e <;> rw[e] <;> rfl
 have hus:us (drN (f (pos q a)).toNat)=false:=by
  rcases hu' with e | e <;> rw[e] <;> rfl
 have hne:a ∉ S1 ++ S2:=by
  have:=(List.perm_middle.nodup_iff).1 h.nd
  exact(List.nodup_cons.1 this).1
 have hoff:∀z x,x≠a→0≤plI 28 (bq q) (zq q) x→put f (pos q a) z (pos q x)=f (pos q x):=fun z x hx h0=>put_off z (pos_ne h0 ha hx)
 refine⟨fun i hi=>?_,fun x hx=>?_,?_,?_,fun x hx=>?_,fun x hx=>?_,fun x hx=>?_⟩
 ·by_cases e:i=pos q a
  ·rw[e,put_at,hz]; split <;> omega
  ·rw[put_off _ e]; exact h.bd i hi
 ·have hx':x ∈ S1 ++ a :: S2:=by
   rw[List.mem_append] at hx ⊢
   rcases hx with hx | hx
   ·exact .inl hx
   ·exact .inr (List.mem_cons_of_mem _ hx)
  obtain⟨h1,h2⟩:=h.ok x hx'
  refine⟨h1,?_⟩
  rw[hoff _ x (by rintro rfl; exact hne hx) h1]
  exact h2
 ·have:=(List.perm_middle.nodup_iff).1 h.nd
  exact(List.nodup_cons.1 this).2
 ·rw[usN_put f (pos q a) _ (kq q) (pos_lt ha).1,hu,hus,h.cnt]
  simp
  omega
 ·obtain⟨h1,h2⟩:=h.kp x hx
  refine⟨h1,?_⟩
  by_cases e:x=a
  ·subst e
   rw[put_at,hz]
   have e1:f (pos q x)=1:=by omega
   rw[if_pos e1]
   omega
  ·rw[hoff _ x e h1]; exact h2
 ·rcases hx with hx | ⟨hx,e⟩
  ·obtain⟨h1,h2⟩:=h.gn x hx
   rw[hoff _ x (by rintro rfl; omega) h1]
   exact⟨h1,h2⟩
  ·subst e
   have h2:=(h.kp x hx).2
   rw[put_at,hz]
   have e1:f (pos q x)=1:=by omega
   rw[if_pos e1]
   exact⟨ha,rfl⟩
 ·by_cases e:x=a
  ·subst e
   rw[put_at,hz]
   exact⟨ha,by split <;> omega⟩
  ·obtain⟨h1,h2⟩:=h.go x (hx.resolve_right e)
   rw[hoff _ x e h1]
   exact⟨h1,h2⟩
theorem NvV.weak{K2 G2 D2:Int→Prop}(h:NvV q f S K G D)(hK:∀x,K2 x→K x)(hG:∀x,G2 x→G x)(hD:∀x,D2 x→D x):NvV q f S K2 G2 D2:=
 ⟨h.bd,h.ok,h.nd,h.cnt,fun x hx=>h.kp x (hK x hx),fun x hx=>h.gn x (hG x hx),fun x hx=>h.go x (hD x hx)⟩
end
theorem usN_0:∀n,usN (fun _=>0) n=0
 | 0=>rfl
 | n+1=>by rw[usN,usN_0 n]; rfl
theorem nv_start:NvV q (fun _=>0) [] (fun _=>False) (fun _=>False) (fun _=>False):=
 ⟨fun _ _=>by omega,fun x hx=>by simp at hx,List.nodup_nil,by rw[usN_0]; rfl,fun _ hx=>hx.elim,fun _ hx=>hx.elim,fun _ hx=>hx.elim⟩
theorem tk_never{f:Nat→Int}{S:List Int}{K G D:Int→Prop}(h:NvV q f S K G D){c:Nat}(hc:c=1∨c=2) :
  (tkE 28 (bq q) (zq q) (kq q) f c=9∧tkF 28 (bq q) (zq q) (kq q) f c=f)∨
  ∃p,Hp p∧tkp 28 (bq q) (zq q) (kq q) f c=p.A∧tkq 28 (bq q) (zq q) (kq q) f c=p.B∧tkE 28 (bq q) (zq q) (kq q) f c=0∧(c=1→p.B = -1)∧(c=2→0≤p.B)∧(∀x,x ∈ secs p→x ∉ S∧¬ G x∧¬ D x)∧NvV q (tkF 28 (bq q) (zq q) (kq q) f c) (S ++ secs p) K G D:=by
 have hN:=q.num
 have hp:formB 28 (bq q) (zq q:Nat) (kq q) f=true:=h.form
 have hap:Ap 28 (bq q) (zq q:Nat):=ap9
 cases ho:tpOk 28 (bq q) (zq q) f c with
 | false=>
  obtain⟨_,_,h3,h4⟩:=tk_no hp hc ho
  exact .inl ⟨h3,h4⟩
 | true=>
  obtain⟨h1,h2,h3,h4⟩:=tk_yes hp hc ho
  have hall:=tpOk_yes ho hc
  right
  have n0:=hall 0 (by omega)
  obtain⟨e0,l0,z0,d0⟩:=tpL_at hap hc (show 0 < c by omega) n0
  have b0:=tpP_bd (f:=f) (c:=c) hap 0
  have b1:=tpP_bd (f:=f) (c:=c) hap 1
  have hA:tpP 28 (bq q) (zq q) f c 0=tp0 28 (bq q) (zq q) f c:=rfl
  have hB:tpP 28 (bq q) (zq q) f c 1=tp1 (bq q) (zq q) f c:=rfl
  have hpa:0≤plI 28 (bq q) (zq q) (tp0 28 (bq q) (zq q) f c):=by
   have:plI 28 (bq q) (zq q:Nat) (tp0 28 (bq q) (zq q) f c)=tpL 28 (bq q) (zq q) f c 0:=e0
   show 0≤plI 28 (bq q) (zq q:Nat) (tp0 28 (bq q) (zq q) f c)
   omega
  have hza:f (pos q (tp0 28 (bq q) (zq q) f c))=0:=z0
  have hsA:=h.take hpa hza
  have hbA:=pos_lt hpa
  refine⟨⟨tp0 28 (bq q) (zq q) f c,tp1 (bq q) (zq q) f c,Pt.zS⟩,⟨by show 0≤tp0 28 (bq q) (zq q) f c; omega,by show -1≤tp1 (bq q) (zq q) f c; omega,by show tp0 28 (bq q) (zq q) f c < 4096; omega,?_⟩,h1,h2,h3,?_,?_,?_,?_⟩
  ·show tp1 (bq q) (zq q) f c < 4096
   rcases hc with rfl | rfl
   ·show(-1:Int) < 4096; omega
   ·have n1:=hall 1 (by omega)
    obtain⟨e1,l1,_⟩:=tpL_at hap (.inr rfl) (show 1 < 2 by omega) n1
    have:0≤plI 28 (bq q) (zq q) (tp1 (bq q) (zq q) f 2):=by
     have:plI 28 (bq q) (zq q:Nat) (tp1 (bq q) (zq q) f 2)=tpL 28 (bq q) (zq q) f 2 1:=e1
     show 0≤plI 28 (bq q) (zq q:Nat) (tp1 (bq q) (zq q) f 2)
     omega
    have:=pos_lt this
    omega
  ·rintro rfl; rfl
  ·rintro rfl
   have n1:=hall 1 (by omega)
   show 0≤tp1 (bq q) (zq q) f 2
   omega
  ·intro x hx
   rcases hc with rfl | rfl
   ·rw[secs_one (by show tp0 28 (bq q) (zq q) f 1≠-1; omega) rfl,List.mem_singleton] at hx
    subst hx
    exact h.free hza
   ·have n1:=hall 1 (by omega)
    have z1:=(tpL_at hap (.inr rfl) (show 1 < 2 by omega) n1).2.2.1
    rw[secs_two (by show tp0 28 (bq q) (zq q) f 2≠-1; omega) (by show tp1 (bq q) (zq q) f 2≠-1; omega)] at hx
    rcases List.mem_cons.1 hx with rfl | hx
    ·exact h.free hza
    ·rw[List.mem_singleton] at hx
     subst hx
     exact h.free z1
  ·show NvV q (tkF 28 (bq q) (zq q:Nat) (kq q) f c) _ K G D
   rw[h4]
   rcases hc with rfl | rfl
   ·rw[secs_one (by show tp0 28 (bq q) (zq q) f 1≠-1; omega) rfl]
    exact hsA
   ·have n1:=hall 1 (by omega)
    obtain⟨e1,l1,z1,d1⟩:=tpL_at hap (.inr rfl) (show 1 < 2 by omega) n1
    have hpb:0≤plI 28 (bq q) (zq q) (tp1 (bq q) (zq q) f 2):=by
     have:plI 28 (bq q) (zq q:Nat) (tp1 (bq q) (zq q) f 2)=tpL 28 (bq q) (zq q) f 2 1:=e1
     show 0≤plI 28 (bq q) (zq q:Nat) (tp1 (bq q) (zq q) f 2)
     omega
    have hne:tpL 28 (bq q) (zq q) f 2 1≠tpL 28 (bq q) (zq q) f 2 0:=by
     have:=(d0 rfl).1 rfl
     have:=(d1 rfl).2 rfl
     omega
    rw[secs_two (by show tp0 28 (bq q) (zq q) f 2≠-1; omega) (by show tp1 (bq q) (zq q) f 2≠-1; omega),show S ++ [tp0 28 (bq q) (zq q) f 2,tp1 (bq q) (zq q) f 2]=(S ++ [tp0 28 (bq q) (zq q) f 2]) ++ [tp1 (bq q) (zq q) f 2] by simp]
    exact hsA.take hpb ((put_off _ (show pos q (tp1 (bq q) (zq q) f 2)≠pos q (tp0 28 (bq q) (zq q) f 2) from hne)).trans z1)
theorem dr_never{f:Nat→Int}{S1 S2:List Int}{K G D:Int→Prop}{p:Pt.Pn}(h:NvV q f (S1 ++ secs p ++ S2) K G D)(hh:Hp p) :
  drE 28 (bq q) (zq q) (kq q) f p=0∧NvV q (drF 28 (bq q) (zq q) (kq q) f p) (S1 ++ S2) K (fun x=>G x∨(K x∧x ∈ secs p)) (fun x=>D x∨x ∈ secs p):=by
 have hA:p.A≠-1:=by have:=hh.a; omega
 have hap:=h.form
 by_cases hB:p.B = -1
 ·have hs:=secs_one hA hB
  rw[hs] at h ⊢
  have h':NvV q f (S1 ++ p.A :: S2) K G D:=by simpa using h
  obtain⟨o1,o2⟩:=h'.ok p.A (by simp)
  have e:pls 28 (bq q) (zq q) p=[plI 28 (bq q) (zq q) p.A]:=by rw[pls_map,hs]; rfl
  have hb:drB 28 (bq q) (zq q) (kq q) f p=true:=by
   unfold drB plB anyP
   rw[hap,held_right hh (by omega),e,hB]
   have:us (f (plI 28 (bq q) (zq q) p.A).toNat)=true:=o2
   simp[okB,o1,this]
  refine⟨by unfold drE; rw[hb]; rfl,?_⟩
  unfold drF
  rw[hb,e]
  have hL:plL 28 (bq q) (zq q) p 0=pos q p.A:=by unfold plL; rw[e]; rfl
  show NvV q (put f (plL 28 (bq q) (zq q) p 0) (drN (f (plL 28 (bq q) (zq q) p 0)).toNat)) _ _ _ _
  rw[hL]
  exact h'.drop.weak (fun _ hx=>hx) (fun x hx=>by simpa using hx) (fun x hx=>by simpa using hx)
 ·have hs:=secs_two hA hB
  rw[hs] at h ⊢
  have h':NvV q f (S1 ++ p.A :: (p.B :: S2)) K G D:=by simpa using h
  obtain⟨o1,o2⟩:=h'.ok p.A (by simp)
  obtain⟨q1,q2⟩:=h'.ok p.B (by simp)
  have hne:p.B≠p.A:=by
   intro e
   have:=(List.nodup_append.1 h'.nd).2.1
   rw[e] at this
   simp at this
  have e:pls 28 (bq q) (zq q) p=[plI 28 (bq q) (zq q) p.A,plI 28 (bq q) (zq q) p.B]:=by rw[pls_map,hs]; rfl
  have hb:drB 28 (bq q) (zq q) (kq q) f p=true:=by
   unfold drB plB anyP
   rw[hap,held_right hh hne,e]
   have t1:us (f (plI 28 (bq q) (zq q) p.A).toNat)=true:=o2
   have t2:us (f (plI 28 (bq q) (zq q) p.B).toNat)=true:=q2
   simp[okB,o1,q1,t1,t2]
  refine⟨by unfold drE; rw[hb]; rfl,?_⟩
  unfold drF
  rw[hb,e]
  have hL:plL 28 (bq q) (zq q) p 0=pos q p.A:=by unfold plL; rw[e]; rfl
  have hL1:plL 28 (bq q) (zq q) p 1=pos q p.B:=by unfold plL; rw[e]; rfl
  show NvV q (put (put f (plL 28 (bq q) (zq q) p 0) (drN (f (plL 28 (bq q) (zq q) p 0)).toNat)) (plL 28 (bq q) (zq q) p 1) (drN (put f (plL 28 (bq q) (zq q) p 0) (drN (f (plL 28 (bq q) (zq q) p 0)).toNat) (plL 28 (bq q) (zq q) p 1)).toNat)) _ _ _ _
  rw[hL,hL1]
  refine(h'.drop.drop (S1:=S1)).weak (fun _ hx=>hx) (fun x hx=>?_) (fun x hx=>?_)
  ·rcases hx with hx | ⟨hx,hm⟩
   ·exact .inl (.inl hx)
   ·rcases List.mem_cons.1 hm with rfl | hm
    ·exact .inl (.inr ⟨hx,rfl⟩)
    ·rw[List.mem_singleton] at hm
     exact .inr ⟨hx,hm⟩
  ·rcases hx with hx | hm
   ·exact .inl (.inl hx)
   ·rcases List.mem_cons.1 hm with rfl | hm
    ·exact .inl (.inr rfl)
    ·rw[List.mem_singleton] at hm
     exact .inr hm
end Qv
namespace Qv
open Go.RowKit Dk Byt Eqb Rm Di
open Vm (vM vX0 nw wr_well fl_well act_neg st_nw sum_same at0)
variable {q:Qt}
structure Up(q:Qt)(X:Dst):Prop where
 f:formed (nq q) X
 d:X.d=false
 n:X.f = -1
theorem Up.ok{X:Dst}(h:Up q X){k:Nat}(hk:X.m+k≤100000):Ok k X:=⟨by omega,by rw[h.n]; unfold i64; omega⟩
theorem Up.wr{X:Dst}(h:Up q X){a:Int}(ha:0≤a∧a < (nq q:Int))(hw:nw X a=false)(D:Nat→Int) :
  dWrE (nq q) X a=0∧Up q (dWr (nq q) X a D)∧(dWr (nq q) X a D).m=X.m+1∧∀c,nw (dWr (nq q) X a D) c=nw X c:=by
 have hE:dWrE (nq q) X a=0:=wr_well h.f h.d (by rw[h.n]; decide) ha hw
 obtain⟨h1,_,h3⟩:=dWr_yes (D:=D) hE
 refine⟨hE,⟨h.f.wr _ _,up_wr (.inl hE),?_⟩,h1,fun c=>by unfold nw; rw[h3]⟩
 show wrF (nq q) X.m X.C X.f X.d a = -1
 unfold wrF
 rw[h.d,h.n,(act_neg (f:=-1) (by decide)).2.1]
 split <;> rfl
theorem Up.fl{X:Dst}(h:Up q X):dFlE (nq q) X=0∧Up q (dFl (nq q) X)∧(dFl (nq q) X).m=0∧∀c,nw (dFl (nq q) X) c=nw X c:=by
 have hE:dFlE (nq q) X=0:=fl_well h.f h.d (by rw[h.n]; decide)
 obtain⟨h1,_,h3⟩:=up_fl hE
 refine⟨hE,⟨h.f.fl,h3,?_⟩,?_,fun c=>?_⟩
 ·show flF (nq q) X.m X.C X.f X.d = -1
  unfold flF
  rw[h.d,h.n,(act_neg (f:=-1) (by decide)).2.1]
  split <;> rfl
 ·show flM (nq q) X.m X.C X.f X.d=0
  unfold flM
  rw[if_pos h1]
 ·show(flS (nq q) X.m X.S X.C X.f X.d c.toNat).noWrite=_
  unfold flS
  rw[if_pos h1]
  exact st_nw _ _
structure Good(X:Dst)(b:Nat→Int)(a:Int):Prop where
 r:(lk X a).1=false
 v:∀i,i < 128→(lk X a).2 i=b i
def Rg(q:Qt)(x:Int):Prop:=(28≤x∧x < 2 * (q.1:Int)+148)∨(2 * (q.1:Int)+176≤x∧x < 4 * (q.1:Int)+296)
theorem halfq(q:Qt):halfN ((nq q:Nat):Int)=2 * (q.1:Int)+148:=by
 have hN:=q.num
 rw[hN.1]
 unfold halfN
 rw[if_neg (by omega)]
 omega
theorem Rg.lent{x:Int}(h:Rg q x):lentB (halfN ((nq q:Nat):Int)) x=true:=by
 have hN:=q.num
 rw[halfq]
 unfold Rg at h
 have hm:x % (2 * (q.1:Int)+148)=x∨(2 * (q.1:Int)+148≤x∧x % (2 * (q.1:Int)+148)=x - (2 * (q.1:Int)+148)):=by
  rcases h with h | h
  ·exact .inl (Int.emod_eq_of_lt (by omega) (by omega))
  ·refine .inr ⟨by omega,?_⟩
   rw[←Int.sub_emod_right,Int.emod_eq_of_lt (by omega) (by omega)]
 unfold lentB
 simp only[Bool.and_eq_true,decide_eq_true_eq]
 generalize x % (2 * (q.1:Int)+148)=y at *
 omega
theorem Rg.bd{x:Int}(h:Rg q x):0≤x∧x < (nq q:Int)∧x < 4096:=by have hN:=q.num; unfold Rg at h; omega
structure Ps(q:Qt)(a c:Int):Prop where
 fa:Rg q a
 fc:c = -1∨(Rg q c∧c≠a)
theorem Ps.hole{a c:Int}(h:Ps q a c)(s:Nat→Int):Pt.isHole ⟨a,c,s⟩=false:=by
 have:=h.fa.bd
 have:(a == -1)=false:=by simp; omega
 simp[Pt.isHole,Pt.eqP,Pt.hole,this]
theorem Ps.fits{a c:Int}(h:Ps q a c)(s D:Nat→Int):Pt.fitsB ⟨a,c,s⟩ D=eqB 32 s (Pt.sumD D):=by
 unfold Pt.fitsB
 rw[h.hole]
 rfl
theorem Ps.right{a c:Int}(h:Ps q a c)(s:Nat→Int):Pt.rightB ⟨a,c,s⟩=true:=by
 have ha:=h.fa.bd
 have sa:Pt.secB a=true:=Pt.secB_iff.2 (by omega)
 unfold Pt.rightB
 rw[h.hole]
 rcases h.fc with rfl | ⟨hc,hne⟩
 ·simp[sa]
 ·have hc':=hc.bd
  have sc:Pt.secB c=true:=Pt.secB_iff.2 (by omega)
  simp[sa,sc,hne]
theorem rt0(q:Qt):Rm.rightB ((nq q:Nat):Int) vM.gen vM.k vM.F vM.T=true:=by
 have hN:=q.num
 have hh:=halfq q
 unfold Rm.rightB
 rw[hh,decide_eq_true (show 2 * (q.1:Int)+148≠0 by omega)]
 rfl
theorem Ps.home{X:Dst}{a c:Int}(h:Ps q a c)(hu:Up q X)(s:Nat→Int):homB (nq q) X vM ⟨a,c,s⟩=true:=by
 unfold homB
 rw[show formedB (nq q) X.m X.C=true from hu.f,h.right,(rt0 q)]
 dsimp only
 rw[h.fa.lent]
 rcases h.fc with rfl | ⟨hc,_⟩
 ·simp
 ·rw[hc.lent]; simp
theorem t_lk{X:Dst}(h:Up q X){x:Int}(hx:Rg q x):tE (nq q) X vM x=(if (lk X x).1 then 2 else 0)∧tV (nq q) X vM x=if (lk X x).1 then fun _=>0 else (lk X x).2:=by
 have:=rE_lk (y:=x) (rm_home (M:=vM) h.f (rt0 q) hx.lent) h.d
 rw[at0] at this
 exact this
theorem Good.t{X:Dst}{b:Nat→Int}{x a c:Int}(h:Good X b x)(hu:Up q X)(hx:Rg q x)(hp:Ps q a c):tE (nq q) X vM x=0∧(∀i,i < 128→tV (nq q) X vM x i=b i)∧gdB (nq q) X vM ⟨a,c,Pt.sumD b⟩ x=true:=by
 obtain⟨e1,e2⟩:=t_lk hu hx
 rw[h.r] at e1 e2
 have hv:∀i,i < 128→tV (nq q) X vM x i=b i:=fun i hi=>by rw[e2]; exact h.v i hi
 refine⟨by rw[e1]; rfl,hv,?_⟩
 unfold gdB
 rw[e1,hp.fits,sum_same hv,eqB_same]
 rfl
theorem Good.bts{X:Dst}{b:Nat→Int}{x:Int}(h:Good X b x)(hu:Up q X)(hx:Rg q x)(hb:Di.byt b):Di.byt (tV (nq q) X vM x):=by
 rw[(t_lk hu hx).2,h.r]
 exact fun i hi=>by
  rw[if_neg (by decide),h.v i hi]
  exact hb i hi
theorem w_up{X:Dst}(hu:Up q X){x:Int}(hx:Rg q x)(hw:nw X x=false)(V:Nat→Int):wRes (nq q) X vM x V=(0,dWr (nq q) X x V,vM):=by
 have hE:=(hu.wr ⟨hx.bd.1,hx.bd.2.1⟩ hw V).1
 have e:dWrE (nq q) X (wA vM x)=0:=hE
 rw[w_c1 (rm_home (M:=vM) hu.f (rt0 q) hx.lent) (by rw[e]; decide),e]
 rfl
theorem Good.new{X:Dst}{V:Nat→Int}{x:Int}(hu:Up q X)(hx:Rg q x)(hw:nw X x=false):Good (dWr (nq q) X x V) V x:=by
 have:=lk_same (D:=V) (hu.wr ⟨hx.bd.1,hx.bd.2.1⟩ hw V).1
 exact⟨by rw[this],fun i hi=>by rw[this]⟩
theorem Good.old{X:Dst}{b V:Nat→Int}{x y:Int}(h:Good X b y)(hxy:y≠x):Good (dWr (nq q) X x V) b y:=by
 have:=lk_other (n:=(nq q)) (X:=X) (D:=V) hxy
 exact⟨by rw[this]; exact h.r,fun i hi=>by rw[this]; exact h.v i hi⟩
def Clean(q:Qt)(X:Dst):Prop:=∀x,Rg q x→nw X x=false
structure Laid(q:Qt)(X:Dst)(V:Nat→Int)(a c:Int)(R:PR):Prop where
 p:R.p=⟨a,c,Pt.sumD V⟩
 e:R.e=0
 M:R.M=vM
 u:Up q R.X
 cl:Clean q R.X
 m:R.X.m≤X.m+2
 ga:Good R.X V a
 gc:c≠-1→Good R.X V c
 old:∀b y,y≠a→y≠c→Good X b y→Good R.X b y
theorem put_up{X:Dst}{V:Nat→Int}{a c:Int}(hu:Up q X)(hc:Clean q X)(hp:Ps q a c):Laid q X V a c (pRes (nq q) X vM V a c)∧wRes (nq q) X vM a V=(0,dWr (nq q) X a V,vM):=by
 have hO:Pt.ofE V a c=0:=by
  unfold Pt.ofE
  rw[if_pos ⟨hp.hole _,hp.right _⟩]
 have w1:=w_up hu hp.fa (hc a hp.fa) V
 obtain⟨_,u1,m1,n1⟩:=hu.wr ⟨hp.fa.bd.1,hp.fa.bd.2.1⟩ (hc a hp.fa) V
 have g1:Good (dWr (nq q) X a V) V a:=Good.new hu hp.fa (hc a hp.fa)
 have c1:Clean q (dWr (nq q) X a V):=fun x hx=>by rw[n1]; exact hc x hx
 refine⟨?_,w1⟩
 rcases hp.fc with rfl | ⟨hcr,hne⟩
 ·rw[p_one (M:=vM) hO (hp.home hu _) (by rw[w1]) rfl,w1]
  exact⟨rfl,rfl,rfl,u1,c1,by show(dWr (nq q) X a V).m≤_; omega,g1,fun h=>absurd rfl h,fun b y h1 _ hg=>hg.old h1⟩
 ·have w2:=w_up u1 hcr (c1 c hcr) V
  obtain⟨_,u2,m2,n2⟩:=u1.wr ⟨hcr.bd.1,hcr.bd.2.1⟩ (c1 c hcr) V
  have hcn:c≠-1:=by have:=hcr.bd; omega
  rw[p_two (M:=vM) hO (hp.home hu _) (by rw[w1]) hcn (by rw[w1]; dsimp only; rw[w2]),w1]
  dsimp only
  rw[w2]
  exact⟨rfl,rfl,rfl,u2,fun x hx=>by show nw (dWr (nq q) (dWr (nq q) X a V) c V) x=false; rw[n2]; exact c1 x hx,by show(dWr (nq q) (dWr (nq q) X a V) c V).m≤_; omega,g1.old (Ne.symm hne),fun _=>Good.new u1 hcr (c1 c hcr),fun b y h1 h2 hg=>(hg.old h1).old h2⟩
theorem get_up{X:Dst}{b:Nat→Int}{a c:Int}(hu:Up q X)(hp:Ps q a c)(h:Good X b a):gRes (nq q) X vM ⟨a,c,Pt.sumD b⟩=⟨tV (nq q) X vM a,0,0,X,vM⟩∧∀i,i < 128→tV (nq q) X vM a i=b i:=by
 obtain⟨_,v1,g1⟩:=h.t hu hp.fa hp
 have ha:=hp.fa.bd
 exact⟨g_one (hp.home hu _) (show a≠-1 by omega) hu.d g1,v1⟩
def vX1(q:Qt):Dst:=fmX (nq q) vX0
theorem vX0_up:Up q vX0:=⟨by
 have hN:=q.num
 show formedB (nq q) 0 _=true
 unfold formedB
 rw[decide_eq_true (show 1≤nq q by omega),decide_eq_true (show nq q≤4096 by omega)]
 rfl,rfl,rfl⟩
theorem fresh_up:fmE (nq q) vX0=0∧Up q (vX1 q)∧(vX1 q).m=0∧Clean q (vX1 q):=by
 have hN:=q.num
 have hh:hfN (nq q) vX0=2 * (q.1:Int)+148:=by rw[(vX0_up (q:=q)).f.hf]; exact halfq q
 obtain⟨e0,u1,m1,w1⟩:=(vX0_up (q:=q)).wr (a:=((0:Nat):Int) * (2 * (q.1:Int)+148)) ⟨by simp,by simp; omega⟩ rfl (tab0 (nq q))
 obtain⟨e1,u2,m2,w2⟩:=u1.wr (a:=((1:Nat):Int) * (2 * (q.1:Int)+148)) ⟨by simp; omega,by simp; omega⟩ (by rw[w1]; rfl) (tab0 (nq q))
 obtain⟨e2,u3,m3,w3⟩:=u2.fl
 have hc:∀c',c' < 2→fmC (nq q) (hfN (nq q) vX0) (tab0 (nq q)) vX0 c'=0:=fun c' h=>by
  rw[hh]
  match c',h with
  | 0,_=>exact e0
  | 1,_=>exact e1
 obtain⟨h1,h2⟩:=(fm_cases (nq q) vX0).2.2 (by rw[hh]; omega) hc
 rw[hh] at h1 h2
 have hX:vX1 q=dFl (nq q) (dWr (nq q) (dWr (nq q) vX0 (((0:Nat):Int) * (2 * (q.1:Int)+148)) (tab0 (nq q))) (((1:Nat):Int) * (2 * (q.1:Int)+148)) (tab0 (nq q))):=h2
 refine⟨by rw[h1]; exact e2,by rw[hX]; exact u3,by rw[hX]; exact m3,fun x hx=>?_⟩
 rw[hX,w3,w2,w1]
 rfl
end Qv
namespace Qv
open Go.RowKit Dk Gm Eqb Rm Di Vl
open Vm (vM nw)
variable {q:Qt}
theorem inq(q:Qt):inQ (q.1:Int):=by have:=q.2; unfold inQ; omega
theorem fsqq(q:Qt):fsq ((nq q:Nat):Int)=(q.1:Int):=by rw[q.num.1]; exact fsq_of (inq q)
theorem okQq(q:Qt):okQ (nq q)=true:=by unfold okQ; rw[fsqq]; exact decide_eq_true (inq q)
theorem rv_up{X:Dst}{f:Nat→Int}(hu:Up q X)(hf:Sp.formB 28 (bq q) (zq q) (kq q) f=true):rv (nq q) X vM 28 (bq q) (zq q) (kq q) f=true:=by
 unfold rv rvB lyB
 rw[show formedB (nq q) X.m X.C=true from hu.f,okQq,rt0 q,hf,fsqq,show((((zq q:Nat):Int) == 2 * (q.1:Int)+120)=true) by rw[q.num.2.1]; simp]
 have:(bq q == 2 * (q.1:Int)+176)=true:=by rw[q.num.2.2.1]; simp
 rw[this]
 rfl
theorem pl_rg{x:Int}(h:Rg q x):0≤Sp.plI 28 (bq q) (zq q) x∧Sp.plI 28 (bq q) (zq q) x < (kq q:Int):=by
 have hN:=q.num
 unfold Rg at h
 unfold Sp.plI
 split
 ·omega
 ·split <;> omega
def ix(q:Qt)(x:Int):Nat:=(Sp.plI 28 (bq q) (zq q) x).toNat
theorem secU_rg{f:Nat→Int}{x:Int}(h:Rg q x)(hu:Sp.us (f (ix q x))=true):secU 28 (bq q) (zq q) f x=true:=by
 unfold secU
 rw[decide_eq_true (pl_rg h).1,show Sp.us (f (Sp.plI 28 (bq q) (zq q) x).toNat)=true from hu]
 simp
theorem secU_none(f:Nat→Int):secU 28 (bq q) (zq q) f (-1)=true:=rfl
theorem mn_up{X:Dst}{f:Nat→Int}(hu:Up q X)(hf:Sp.formB 28 (bq q) (zq q) (kq q) f=true){a c:Int}(hp:Ps q a c)(ha:Sp.us (f (ix q a))=true)(hc:c≠-1→Sp.us (f (ix q c))=true)(s:Nat→Int):mn (nq q) X vM 28 (bq q) (zq q) (kq q) f ⟨a,c,s⟩=true:=by
 have h1:=rv_up hu hf
 unfold rv at h1
 unfold mn mnB
 rw[h1,dr_secs hf,hp.right]
 dsimp only
 rw[secU_rg hp.fa ha]
 rcases hp.fc with rfl | ⟨hcr,_⟩
 ·rfl
 ·rw[secU_rg hcr (hc (by have:=hcr.bd; omega))]
  rfl
theorem mn_hole{X:Dst}{f:Nat→Int}(hu:Up q X)(hf:Sp.formB 28 (bq q) (zq q) (kq q) f=true):mn (nq q) X vM 28 (bq q) (zq q) (kq q) f Pt.hole=true:=by
 have h1:=rv_up hu hf
 unfold rv at h1
 unfold mn mnB
 rw[h1,dr_secs hf]
 rfl
theorem i64_b(q:Qt):Sp.i64 (bq q):=by have hN:=q.num; unfold Sp.i64; omega
theorem put_res{X:Dst}{D:Nat→Int}{a c:Int}(hu:Up q X)(hc:Clean q X)(hp:Ps q a c)(hm:X.m≤90000):∃X',pRes (nq q) X vM D a c=⟨⟨a,c,Pt.sumD D⟩,0,X',vM⟩∧Up q X'∧Clean q X'∧X'.m≤X.m+2∧Good X' D a∧(c≠-1→Good X' D c)∧
  (∀b y,y≠a→y≠c→Good X b y→Good X' b y)∧Ok 23 (wRes (nq q) X vM a D).2.1∧TabOk (wRes (nq q) X vM a D).2.2:=by
 obtain⟨hl,hw⟩:=put_up (V:=D) hu hc hp
 obtain⟨_,u1,m1,_⟩:=hu.wr ⟨hp.fa.bd.1,hp.fa.bd.2.1⟩ (hc a hp.fa) D
 refine⟨(pRes (nq q) X vM D a c).X,?_,hl.u,hl.cl,hl.m,hl.ga,hl.gc,hl.old,?_,?_⟩
 ·have e1:=hl.p
  have e2:=hl.e
  have e3:=hl.M
  generalize pRes (nq q) X vM D a c=R at e1 e2 e3 ⊢
  obtain⟨p,e,X',M'⟩:=R
  simp only at e1 e2 e3
  subst e1 e2 e3
  rfl
 ·rw[hw]
  exact u1.ok (by rw[m1]; omega)
 ·rw[hw]
  exact tabM
end Qv
end Go.Proofs.YteaocagepfgfnaaGreatDoor
