import Derived.Test.YtknjmamhijlnaaaGreatDoorPVlI
import Derived.Test.YtknjmamhijlnaaaGreatDoorPSpTk
import Derived.Test.YtknjmamhijlnaaaGreatDoorPJDiA
import Derived.Test.YtknjmamhijlnaaaGreatDoorPDiPut
import Derived.Test.YtknjmamhijlnaaaGreatDoorPDiGet
import Derived.Test.YtknjmamhijlnaaaGreatDoorPJPt
import Derived.Test.YtknjmamhijlnaaaGreatDoorPSpDrM
import Derived.Test.YtknjmamhijlnaaaGreatDoorPJRv
set_option maxRecDepth 100000
set_option maxHeartbeats 8000000
namespace Go.Proofs.YtknjmamhijlnaaaGreatDoor
namespace Vl
open Go.RowKit Dk Gm Eqb Rm Vm Di
structure Wd(base:World)(V:Pl)(n:Nat)(X:Dst)(M:Tab)(X':Dst)(M':Tab)(A B Z:Int)(k:Nat)(f:Nat→Int)(T:TypeId)(old new:Array Value)(bc ba bs:Bool)(u:Value)(w':World):Prop where
 g:base.grownBy w' (some V.b)
 l:Loc base V w'
 p0:bc=false→HasVol w' V n X M A B Z k f
 p1:bc=true→HasVol w' V n X' M' A B Z k f
 al:ba=true→∃bk,u=.pointer (some ⟨bk,0,none⟩)∧base.heap.size≤bk∧Off w' V bk∧w'.heap[bk]?=some (.cells (if bs then new else old) T (0,0))
 or':bs=true→bc=true∧ba=true
section
variable {base:World}{V:Pl}{n:Nat}{X X':Dst}{M M':Tab}{A B Z:Int}{k:Nat}{f:Nat→Int}{T:TypeId}{old new:Array Value}{bc ba bs:Bool}{u:Value}{w' w'':World}
theorem Wd.start(h:HasVol base V n X M A B Z k f):Wd base V n X M X' M' A B Z k f T old new false false false u { base with drawn:=base.drawn+1 }:=
 ⟨⟨rfl,rfl,rfl,Nat.le_refl _,fun _ _ _=>rfl⟩,fun _ _ _ k c e=>.inr ⟨k,c,e⟩,fun _=>h.below ⟨rfl,rfl,rfl,Nat.le_refl _,fun _ _=>rfl⟩,(fun e=>by cases e),(fun e=>by cases e),(fun e=>by cases e)⟩
theorem Wd.call(h:Wd base V n X M X' M' A B Z k f T old new bc ba bs u w')(hc:bc=false)(ht:Tv w' V n X' M' A B Z k f w''):Wd base V n X M X' M' A B Z k f T old new true ba bs u w'':=by
 have hbs:bs=false:=by
  cases e:bs with
  | false=>rfl
  | true=>exact absurd (h.or' e).1 (by rw[hc]; decide)
 subst hbs
 refine⟨Dk.oT h.g ht.g,h.l.trans ht.l h.g.size,(fun e=>by cases e),fun _=>ht.v,fun e=>?_,(fun e=>by cases e)⟩
 obtain⟨bk,e1,h1,h2,h3⟩:=h.al e
 have hlt:=(Array.getElem?_eq_some_iff.1 h3).1
 exact⟨bk,e1,h1,h2.loc hlt ht.l,(ht.g.block bk hlt (by simpa using h2.1.symm)).trans h3⟩
theorem Wd.alloc(h:Wd base V n X M X' M' A B Z k f T old new bc ba bs u w')(ha:ba=false)(hk:0 < k):Wd base V n X M X' M' A B Z k f T old new bc true bs (.pointer (some ⟨w'.heap.size,0,none⟩)) (w'.alloc (.cells old T)):=by
 have hbs:bs=false:=by
  cases e:bs with
  | false=>rfl
  | true=>exact absurd (h.or' e).2 (by rw[ha]; decide)
 subst hbs
 have hb:Below w'.heap.size w' (w'.alloc (.cells old T)):=(Below.refl _ _).alloc (Nat.le_refl _) _
 have hv:V.b < w'.heap.size∧Off w' V w'.heap.size:=by
  cases e:bc with
  | false=>exact⟨(h.p0 e).lt,Off.new (h.p0 e) hk (Nat.le_refl _)⟩
  | true=>exact⟨(h.p1 e).lt,Off.new (h.p1 e) hk (Nat.le_refl _)⟩
 refine⟨Dk.oT h.g (Dk.oB hb),h.l.trans (Loc.below hb hv.1) h.g.size,fun e=>(h.p0 e).below hb,fun e=>(h.p1 e).below hb,fun _=>⟨w'.heap.size,rfl,h.g.size,?_,heap_alloc_new _ _⟩,(fun e=>by cases e)⟩
 refine⟨hv.2.1,fun q o s k c e=>hv.2.2 q o s k c ?_⟩
 rw[←e]
 exact(hb.cell hv.1).symm
theorem Wd.store{bk:Nat}(h:Wd base V n X M X' M' A B Z k f T old new true true false (.pointer (some ⟨bk,0,none⟩)) w')(hk:0 < k)(t1:T≠53)(t2:T≠187)
  (hM:M'.k=0∨((∃s,Rm.rightB s M'.gen M'.k M'.F M'.T=true)∧∀(i:Nat) (z:Int),old[i]?=some (.int .i64 z)→z < 8)):Wd base V n X M X' M' A B Z k f T old new true true true (.pointer (some ⟨bk,0,none⟩)) (w'.setRow bk new):=by
 obtain⟨bk',e1,h1,h2,h3⟩:=h.al rfl
 injection e1 with e1
 injection e1 with e1
 injection e1 with e1
 subst e1
 obtain⟨hf1,hf2⟩:=hasVol_only (h.p1 rfl) hk h2 h3 t1 t2 hM (gR new)
 exact⟨grown_only h.g h1 (gR _),h.l.trans (Loc.same (World.cell?_of_block (setRow_other _ _ _ _ h2.1))) h.g.size,(fun e=>by cases e),fun _=>hf1,fun _=>⟨bk,rfl,h1,hf2,setRow_heap _ _ _ _ _ _ h3⟩,fun _=>⟨rfl,rfl⟩⟩
theorem Wd.row{bk:Nat}(h:Wd base V n X M X' M' A B Z k f T old new bc ba bs (.pointer (some ⟨bk,0,none⟩)) w')(ha:ba=true)(hs:bs=false):w'.heap[bk]?=some (.cells old T (0,0)):=by
 obtain⟨bk',e1,h1,h2,h3⟩:=h.al ha
 injection e1 with e1
 injection e1 with e1
 injection e1 with e1
 subst e1
 rw[hs] at h3
 exact h3
theorem Off.below{b:Nat}{w:World}(h:Off w V b)(hV:V.b < w.heap.size)(hb:Below w.heap.size w w'):Off w' V b:=
 ⟨h.1,fun q o s k c e=>h.2 q o s k c (by rw[←e]; exact(hb.cell hV).symm)⟩
end
end Vl
namespace Vm
open Go.RowKit Dk Byt Eqb Rm Di
theorem act_neg{f:Int}(h:f < 0):actE f false=0∧actF f false=f∧actD f false=false:=by
 unfold actE actF actD
 refine⟨?_,?_,?_⟩
 ·rw[if_neg (by simp; omega)]
 ·simp; omega
 ·simp; omega
theorem wr_well{n:Nat}{X:Dst}{a:Int}(hf:formed n X)(hd:X.d=false)(hn:X.f < 0)(ha:0≤a∧a < n)(hw:(X.S a.toNat).noWrite=false):dWrE n X a=0:=by
 obtain⟨e1,_,_⟩:=act_neg hn
 have ho:wrOk n X.m X.C a=true:=by
  unfold wrOk hasB
  rw[show formedB n X.m X.C=true from hf,decide_eq_true ha.1,decide_eq_true ha.2]
  rfl
 unfold dWrE wrE
 rw[ho,if_pos rfl,hd,e1,if_pos rfl,hw]
 rfl
theorem fl_well{n:Nat}{X:Dst}(hf:formed n X)(hd:X.d=false)(hn:X.f < 0):dFlE n X=0:=by
 unfold dFlE flE
 rw[show formedB n X.m X.C=true from hf,if_pos rfl,hd]
 exact(act_neg hn).1
def nw(X:Dst)(a:Int):Bool:=(X.S a.toNat).noWrite
theorem st_nw{S:Nat→Sec}{C:Nat→Wr}{kp:Nat→Bool}(i:Nat):∀m,(stS S C kp m i).noWrite=(S i).noWrite
 | 0=>rfl
 | m+1=>by
  have ih:=st_nw (S:=S) (C:=C) (kp:=kp) i m
  simp only[stS]
  split
  ·unfold upd
   split
   ·rename_i e
    rw[←e]
    exact ih
   ·exact ih
  ·exact ih
theorem sum_same{D E:Nat→Int}(h:∀i,i < 128→D i=E i):Pt.sumD D=Pt.sumD E:=by
 have e:tab 128 D=tab 128 E:=List.map_congr_left fun i hi=>h i (List.mem_range.1 hi)
 unfold Pt.sumD
 rw[e]
def vM:Tab:=⟨0,0,fun _=>0,fun _=>0⟩
theorem at0(x:Int):atT vM.F vM.T vM.k x=x:=rfl
def vX0:Dst:=⟨0,fun _=>sec0,fun _=>wr0,-1,false⟩
end Vm
namespace Qv
open Go.RowKit Dk Eqb Byt Sp
open Vp (put_at put_off usN_far usN_put us_iff usN_same five sx sx_append sx_cons sx_one sx_mem sx_len secs_one secs_two Hp sx_step sx_parts held_ne held_right)
def Qt:={q:Nat // 4≤q∧q≤900}
def nq(q:Qt):Nat:=4 * q.1+316
def zq(q:Qt):Nat:=2 * q.1+120
def bq(q:Qt):Int:=2 * (q.1:Int)+176
def kq(q:Qt):Nat:=4 * q.1+240
theorem Qt.num(q:Qt):(nq q:Int)=4 * (q.1:Int)+316∧(zq q:Int)=2 * (q.1:Int)+120∧bq q=2 * (q.1:Int)+176∧(kq q:Int)=4 * (q.1:Int)+240∧4≤(q.1:Int)∧(q.1:Int)≤900:=by
 have:=q.2
 unfold nq zq bq kq
 omega
variable {q:Qt}
theorem ap9:Ap 28 (bq q) (zq q):=by
 have hN:=q.num
 exact⟨by omega,by omega,by omega,by omega,by omega⟩
def pos(q:Qt)(x:Int):Nat:=(plI 28 (bq q) (zq q) x).toNat
theorem pos_lt{x:Int}(h:0≤plI 28 (bq q) (zq q) x):pos q x < kq q∧28≤x∧x < 4 * (q.1:Int)+296:=by
 have hN:=q.num
 have h1:=plI_lt (x:=x) (ap9 (q:=q))
 unfold pos
 refine⟨by omega,?_⟩
 unfold plI at h
 split at h
 ·omega
 ·split at h <;> omega
theorem pos_ne{x y:Int}(h:0≤plI 28 (bq q) (zq q) x)(h2:0≤plI 28 (bq q) (zq q) y)(hne:x≠y):pos q x≠pos q y:=by
 intro he
 unfold pos at he
 exact hne (plI_inj (ap9 (q:=q)) h (by omega))
structure NvV(q:Qt)(f:Nat→Int)(S:List Int)(K G D:Int→Prop):Prop where
 bd:∀i,i < kq q→0≤f i∧f i≤4
 ok:∀x,x ∈ S→0≤plI 28 (bq q) (zq q) x∧us (f (pos q x))=true
 nd:S.Nodup
 cnt:usN f (kq q)=S.length
 kp:∀x,K x→0≤plI 28 (bq q) (zq q) x∧(f (pos q x)=1∨f (pos q x)=3)
 gn:∀x,G x→0≤plI 28 (bq q) (zq q) x∧f (pos q x)=3
 go:∀x,D x→0≤plI 28 (bq q) (zq q) x∧(f (pos q x)=3∨f (pos q x)=4)
section
variable {f:Nat→Int}{S S1 S2:List Int}{K G D:Int→Prop}
theorem NvV.form(h:NvV q f S K G D):formB 28 (bq q) (zq q) (kq q) f=true:=by
 have hN:=q.num
 exact formB_iff.2 ⟨by omega,by omega,fun i hi=>(h.bd i hi).2⟩
theorem NvV.used(h:NvV q f S K G D):usedN 28 (bq q) (zq q) (kq q) f=S.length:=by unfold usedN; rw[h.form]; exact h.cnt
theorem NvV.free(h:NvV q f S K G D){x:Int}(hx:f (pos q x)=0):x ∉ S∧¬ G x∧¬ D x:=by
 refine⟨fun hm=>?_,fun hm=>?_,fun hm=>?_⟩
 ·have:=(h.ok x hm).2
  rw[hx] at this
  exact absurd this (by decide)
 ·have:=(h.gn x hm).2; omega
 ·have:=(h.go x hm).2; omega
theorem NvV.take(h:NvV q f S K G D){a:Int}(ha:0≤plI 28 (bq q) (zq q) a)(h0:f (pos q a)=0):NvV q (put f (pos q a) (tkN (f (pos q a)).toNat)) (S ++ [a]) K G D:=by
 have hz:tkN (f (pos q a)).toNat=2:=by rw[h0]; rfl
 rw[hz]
 have hoff:∀x,0≤plI 28 (bq q) (zq q) x→f (pos q x)≠0→put f (pos q a) 2 (pos q x)=f (pos q x):=fun x hx hn=>put_off 2 (by
  intro e
  rw[e,h0] at hn
  exact hn rfl)
 refine⟨fun i hi=>?_,fun x hx=>?_,?_,?_,fun x hx=>?_,fun x hx=>?_,fun x hx=>?_⟩
 ·by_cases e:i=pos q a
  ·rw[e,put_at]; omega
  ·rw[put_off 2 e]; exact h.bd i hi
 ·rw[List.mem_append,List.mem_singleton] at hx
  rcases hx with hx | rfl
  ·obtain⟨h1,h2⟩:=h.ok x hx
   exact⟨h1,by rw[hoff x h1 (by have:=us_iff.1 h2; omega)]; exact h2⟩
  ·exact⟨ha,by rw[put_at]; rfl⟩
 ·rw[List.nodup_append]
  refine⟨h.nd,by simp,fun x hx y hy=>?_⟩
  rw[List.mem_singleton] at hy
  subst hy
  rintro rfl
  exact(h.free h0).1 hx
 ·rw[usN_put f (pos q a) 2 (kq q) (pos_lt ha).1,h0,h.cnt,List.length_append]
  show(S.length:Int) - 0+1=_
  simp
 ·obtain⟨h1,h2⟩:=h.kp x hx
  rw[hoff x h1 (by omega)]
  exact⟨h1,h2⟩
 ·obtain⟨h1,h2⟩:=h.gn x hx
  rw[hoff x h1 (by omega)]
  exact⟨h1,h2⟩
 ·obtain⟨h1,h2⟩:=h.go x hx
  rw[hoff x h1 (by omega)]
  exact⟨h1,h2⟩
theorem NvV.drop{a:Int}(h:NvV q f (S1 ++ a :: S2) K G D):NvV q (put f (pos q a) (drN (f (pos q a)).toNat)) (S1 ++ S2) K (fun x=>G x∨(K x∧x=a)) (fun x=>D x∨x=a):=by
 obtain⟨ha,hu⟩:=h.ok a (by simp)
 have hu':=us_iff.1 hu
 have hz:drN (f (pos q a)).toNat=if f (pos q a)=1 then 3 else 4:=by
  rcases hu' with e | e <;> rw[e] <;> rfl
 have hus:us (drN (f (pos q a)).toNat)=false:=by
  rcases hu' with e | e <;> rw[e] <;> rfl
 have hne:a ∉ S1 ++ S2:=by
  have:=(List.perm_middle.nodup_iff).1 h.nd
  exact(List.nodup_cons.1 this).1
 have hoff:∀z x,x≠a→0≤plI 28 (bq q) (zq q) x→put f (pos q a) z (pos q x)=f (pos q x):=fun z x hx h0=>put_off z (pos_ne h0 ha hx)
 refine⟨fun i hi=>?_,fun x hx=>?_,?_,?_,fun x hx=>?_,fun x hx=>?_,fun x hx=>?_⟩
 ·by_cases e:i=pos q a
  ·rw[e,put_at,hz]; split <;> omega
  ·rw[put_off _ e]; exact h.bd i hi
 ·have hx':x ∈ S1 ++ a :: S2:=by
   rw[List.mem_append] at hx ⊢
   rcases hx with hx | hx
   ·exact .inl hx
   ·exact .inr (List.mem_cons_of_mem _ hx)
  obtain⟨h1,h2⟩:=h.ok x hx'
  refine⟨h1,?_⟩
  rw[hoff _ x (by rintro rfl; exact hne hx) h1]
  exact h2
 ·have:=(List.perm_middle.nodup_iff).1 h.nd
  exact(List.nodup_cons.1 this).2
 ·rw[usN_put f (pos q a) _ (kq q) (pos_lt ha).1,hu,hus,h.cnt]
  simp
  omega
 ·obtain⟨h1,h2⟩:=h.kp x hx
  refine⟨h1,?_⟩
  by_cases e:x=a
  ·subst e
   rw[put_at,hz]
   have e1:f (pos q x)=1:=by omega
   rw[if_pos e1]
   omega
  ·rw[hoff _ x e h1]; exact h2
 ·rcases hx with hx | ⟨hx,e⟩
  ·obtain⟨h1,h2⟩:=h.gn x hx
   rw[hoff _ x (by rintro rfl; omega) h1]
   exact⟨h1,h2⟩
  ·subst e
   have h2:=(h.kp x hx).2
   rw[put_at,hz]
   have e1:f (pos q x)=1:=by omega
   rw[if_pos e1]
   exact⟨ha,rfl⟩
 ·by_cases e:x=a
  ·subst e
   rw[put_at,hz]
   exact⟨ha,by split <;> omega⟩
  ·obtain⟨h1,h2⟩:=h.go x (hx.resolve_right e)
   rw[hoff _ x e h1]
   exact⟨h1,h2⟩
theorem NvV.weak{K2 G2 D2:Int→Prop}(h:NvV q f S K G D)(hK:∀x,K2 x→K x)(hG:∀x,G2 x→G x)(hD:∀x,D2 x→D x):NvV q f S K2 G2 D2:=
 ⟨h.bd,h.ok,h.nd,h.cnt,fun x hx=>h.kp x (hK x hx),fun x hx=>h.gn x (hG x hx),fun x hx=>h.go x (hD x hx)⟩
end
theorem usN_0:∀n,usN (fun _=>0) n=0
 | 0=>rfl
 | n+1=>by rw[usN,usN_0 n]; rfl
theorem nv_start:NvV q (fun _=>0) [] (fun _=>False) (fun _=>False) (fun _=>False):=
 ⟨fun _ _=>by omega,fun x hx=>by simp at hx,List.nodup_nil,by rw[usN_0]; rfl,fun _ hx=>hx.elim,fun _ hx=>hx.elim,fun _ hx=>hx.elim⟩
theorem tk_never{f:Nat→Int}{S:List Int}{K G D:Int→Prop}(h:NvV q f S K G D){c:Nat}(hc:c=1∨c=2) :
  (tkE 28 (bq q) (zq q) (kq q) f c=9∧tkF 28 (bq q) (zq q) (kq q) f c=f)∨
  ∃p,Hp p∧tkp 28 (bq q) (zq q) (kq q) f c=p.A∧tkq 28 (bq q) (zq q) (kq q) f c=p.B∧tkE 28 (bq q) (zq q) (kq q) f c=0∧(c=1→p.B = -1)∧(c=2→0≤p.B)∧(∀x,x ∈ secs p→x ∉ S∧¬ G x∧¬ D x)∧NvV q (tkF 28 (bq q) (zq q) (kq q) f c) (S ++ secs p) K G D:=by
 have hN:=q.num
 have hp:formB 28 (bq q) (zq q:Nat) (kq q) f=true:=h.form
 have hap:Ap 28 (bq q) (zq q:Nat):=ap9
 cases ho:tpOk 28 (bq q) (zq q) f c with
 | false=>
  obtain⟨_,_,h3,h4⟩:=tk_no hp hc ho
  exact .inl ⟨h3,h4⟩
 | true=>
  obtain⟨h1,h2,h3,h4⟩:=tk_yes hp hc ho
  have hall:=tpOk_yes ho hc
  right
  have n0:=hall 0 (by omega)
  obtain⟨e0,l0,z0,d0⟩:=tpL_at hap hc (show 0 < c by omega) n0
  have b0:=tpP_bd (f:=f) (c:=c) hap 0
  have b1:=tpP_bd (f:=f) (c:=c) hap 1
  have hA:tpP 28 (bq q) (zq q) f c 0=tp0 28 (bq q) (zq q) f c:=rfl
  have hB:tpP 28 (bq q) (zq q) f c 1=tp1 (bq q) (zq q) f c:=rfl
  have hpa:0≤plI 28 (bq q) (zq q) (tp0 28 (bq q) (zq q) f c):=by
   have:plI 28 (bq q) (zq q:Nat) (tp0 28 (bq q) (zq q) f c)=tpL 28 (bq q) (zq q) f c 0:=e0
   show 0≤plI 28 (bq q) (zq q:Nat) (tp0 28 (bq q) (zq q) f c)
   omega
  have hza:f (pos q (tp0 28 (bq q) (zq q) f c))=0:=z0
  have hsA:=h.take hpa hza
  have hbA:=pos_lt hpa
  refine⟨⟨tp0 28 (bq q) (zq q) f c,tp1 (bq q) (zq q) f c,Pt.zS⟩,⟨by show 0≤tp0 28 (bq q) (zq q) f c; omega,by show -1≤tp1 (bq q) (zq q) f c; omega,by show tp0 28 (bq q) (zq q) f c < 4096; omega,?_⟩,h1,h2,h3,?_,?_,?_,?_⟩
  ·show tp1 (bq q) (zq q) f c < 4096
   rcases hc with rfl | rfl
   ·show(-1:Int) < 4096; omega
   ·have n1:=hall 1 (by omega)
    obtain⟨e1,l1,_⟩:=tpL_at hap (.inr rfl) (show 1 < 2 by omega) n1
    have:0≤plI 28 (bq q) (zq q) (tp1 (bq q) (zq q) f 2):=by
     have:plI 28 (bq q) (zq q:Nat) (tp1 (bq q) (zq q) f 2)=tpL 28 (bq q) (zq q) f 2 1:=e1
     show 0≤plI 28 (bq q) (zq q:Nat) (tp1 (bq q) (zq q) f 2)
     omega
    have:=pos_lt this
    omega
  ·rintro rfl; rfl
  ·rintro rfl
   have n1:=hall 1 (by omega)
   show 0≤tp1 (bq q) (zq q) f 2
   omega
  ·intro x hx
   rcases hc with rfl | rfl
   ·rw[secs_one (by show tp0 28 (bq q) (zq q) f 1≠-1; omega) rfl,List.mem_singleton] at hx
    subst hx
    exact h.free hza
   ·have n1:=hall 1 (by omega)
    have z1:=(tpL_at hap (.inr rfl) (show 1 < 2 by omega) n1).2.2.1
    rw[secs_two (by show tp0 28 (bq q) (zq q) f 2≠-1; omega) (by show tp1 (bq q) (zq q) f 2≠-1; omega)] at hx
    rcases List.mem_cons.1 hx with rfl | hx
    ·exact h.free hza
    ·rw[List.mem_singleton] at hx
     subst hx
     exact h.free z1
  ·show NvV q (tkF 28 (bq q) (zq q:Nat) (kq q) f c) _ K G D
   rw[h4]
   rcases hc with rfl | rfl
   ·rw[secs_one (by show tp0 28 (bq q) (zq q) f 1≠-1; omega) rfl]
    exact hsA
   ·have n1:=hall 1 (by omega)
    obtain⟨e1,l1,z1,d1⟩:=tpL_at hap (.inr rfl) (show 1 < 2 by omega) n1
    have hpb:0≤plI 28 (bq q) (zq q) (tp1 (bq q) (zq q) f 2):=by
     have:plI 28 (bq q) (zq q:Nat) (tp1 (bq q) (zq q) f 2)=tpL 28 (bq q) (zq q) f 2 1:=e1
     show 0≤plI 28 (bq q) (zq q:Nat) (tp1 (bq q) (zq q) f 2)
     omega
    have hne:tpL 28 (bq q) (zq q) f 2 1≠tpL 28 (bq q) (zq q) f 2 0:=by
     have:=(d0 rfl).1 rfl
     have:=(d1 rfl).2 rfl
     omega
    rw[secs_two (by show tp0 28 (bq q) (zq q) f 2≠-1; omega) (by show tp1 (bq q) (zq q) f 2≠-1; omega),show S ++ [tp0 28 (bq q) (zq q) f 2,tp1 (bq q) (zq q) f 2]=(S ++ [tp0 28 (bq q) (zq q) f 2]) ++ [tp1 (bq q) (zq q) f 2] by simp]
    exact hsA.take hpb ((put_off _ (show pos q (tp1 (bq q) (zq q) f 2)≠pos q (tp0 28 (bq q) (zq q) f 2) from hne)).trans z1)
theorem dr_never{f:Nat→Int}{S1 S2:List Int}{K G D:Int→Prop}{p:Pt.Pn}(h:NvV q f (S1 ++ secs p ++ S2) K G D)(hh:Hp p) :
  drE 28 (bq q) (zq q) (kq q) f p=0∧NvV q (drF 28 (bq q) (zq q) (kq q) f p) (S1 ++ S2) K (fun x=>G x∨(K x∧x ∈ secs p)) (fun x=>D x∨x ∈ secs p):=by
 have hA:p.A≠-1:=by have:=hh.a; omega
 have hap:=h.form
 by_cases hB:p.B = -1
 ·have hs:=secs_one hA hB
  rw[hs] at h ⊢
  have h':NvV q f (S1 ++ p.A :: S2) K G D:=by simpa using h
  obtain⟨o1,o2⟩:=h'.ok p.A (by simp)
  have e:pls 28 (bq q) (zq q) p=[plI 28 (bq q) (zq q) p.A]:=by rw[pls_map,hs]; rfl
  have hb:drB 28 (bq q) (zq q) (kq q) f p=true:=by
   unfold drB plB anyP
   rw[hap,held_right hh (by omega),e,hB]
   have:us (f (plI 28 (bq q) (zq q) p.A).toNat)=true:=o2
   simp[okB,o1,this]
  refine⟨by unfold drE; rw[hb]; rfl,?_⟩
  unfold drF
  rw[hb,e]
  have hL:plL 28 (bq q) (zq q) p 0=pos q p.A:=by unfold plL; rw[e]; rfl
  show NvV q (put f (plL 28 (bq q) (zq q) p 0) (drN (f (plL 28 (bq q) (zq q) p 0)).toNat)) _ _ _ _
  rw[hL]
  exact h'.drop.weak (fun _ hx=>hx) (fun x hx=>by simpa using hx) (fun x hx=>by simpa using hx)
 ·have hs:=secs_two hA hB
  rw[hs] at h ⊢
  have h':NvV q f (S1 ++ p.A :: (p.B :: S2)) K G D:=by simpa using h
  obtain⟨o1,o2⟩:=h'.ok p.A (by simp)
  obtain⟨q1,q2⟩:=h'.ok p.B (by simp)
  have hne:p.B≠p.A:=by
   intro e
   have:=(List.nodup_append.1 h'.nd).2.1
   rw[e] at this
   simp at this
  have e:pls 28 (bq q) (zq q) p=[plI 28 (bq q) (zq q) p.A,plI 28 (bq q) (zq q) p.B]:=by rw[pls_map,hs]; rfl
  have hb:drB 28 (bq q) (zq q) (kq q) f p=true:=by
   unfold drB plB anyP
   rw[hap,held_right hh hne,e]
   have t1:us (f (plI 28 (bq q) (zq q) p.A).toNat)=true:=o2
   have t2:us (f (plI 28 (bq q) (zq q) p.B).toNat)=true:=q2
   simp[okB,o1,q1,t1,t2]
  refine⟨by unfold drE; rw[hb]; rfl,?_⟩
  unfold drF
  rw[hb,e]
  have hL:plL 28 (bq q) (zq q) p 0=pos q p.A:=by unfold plL; rw[e]; rfl
  have hL1:plL 28 (bq q) (zq q) p 1=pos q p.B:=by unfold plL; rw[e]; rfl
  show NvV q (put (put f (plL 28 (bq q) (zq q) p 0) (drN (f (plL 28 (bq q) (zq q) p 0)).toNat)) (plL 28 (bq q) (zq q) p 1) (drN (put f (plL 28 (bq q) (zq q) p 0) (drN (f (plL 28 (bq q) (zq q) p 0)).toNat) (plL 28 (bq q) (zq q) p 1)).toNat)) _ _ _ _
  rw[hL,hL1]
  refine(h'.drop.drop (S1:=S1)).weak (fun _ hx=>hx) (fun x hx=>?_) (fun x hx=>?_)
  ·rcases hx with hx | ⟨hx,hm⟩
   ·exact .inl (.inl hx)
   ·rcases List.mem_cons.1 hm with rfl | hm
    ·exact .inl (.inr ⟨hx,rfl⟩)
    ·rw[List.mem_singleton] at hm
     exact .inr ⟨hx,hm⟩
  ·rcases hx with hx | hm
   ·exact .inl (.inl hx)
   ·rcases List.mem_cons.1 hm with rfl | hm
    ·exact .inl (.inr rfl)
    ·rw[List.mem_singleton] at hm
     exact .inr hm
end Qv
namespace Qv
open Go.RowKit Dk Byt Eqb Rm Di
open Vm (vM vX0 nw wr_well fl_well act_neg st_nw sum_same at0)
variable {q:Qt}
structure Up(q:Qt)(X:Dst):Prop where
 f:formed (nq q) X
 d:X.d=false
 n:X.f = -1
theorem Up.ok{X:Dst}(h:Up q X){k:Nat}(hk:X.m+k≤100000):Ok k X:=⟨by omega,by rw[h.n]; unfold i64; omega⟩
theorem Up.wr{X:Dst}(h:Up q X){a:Int}(ha:0≤a∧a < (nq q:Int))(hw:nw X a=false)(D:Nat→Int) :
  dWrE (nq q) X a=0∧Up q (dWr (nq q) X a D)∧(dWr (nq q) X a D).m=X.m+1∧∀c,nw (dWr (nq q) X a D) c=nw X c:=by
 have hE:dWrE (nq q) X a=0:=wr_well h.f h.d (by rw[h.n]; decide) ha hw
 obtain⟨h1,_,h3⟩:=dWr_yes (D:=D) hE
 refine⟨hE,⟨h.f.wr _ _,up_wr (.inl hE),?_⟩,h1,fun c=>by unfold nw; rw[h3]⟩
 show wrF (nq q) X.m X.C X.f X.d a = -1
 unfold wrF
 rw[h.d,h.n,(act_neg (f:=-1) (by decide)).2.1]
 split <;> rfl
theorem Up.fl{X:Dst}(h:Up q X):dFlE (nq q) X=0∧Up q (dFl (nq q) X)∧(dFl (nq q) X).m=0∧∀c,nw (dFl (nq q) X) c=nw X c:=by
 have hE:dFlE (nq q) X=0:=fl_well h.f h.d (by rw[h.n]; decide)
 obtain⟨h1,_,h3⟩:=up_fl hE
 refine⟨hE,⟨h.f.fl,h3,?_⟩,?_,fun c=>?_⟩
 ·show flF (nq q) X.m X.C X.f X.d = -1
  unfold flF
  rw[h.d,h.n,(act_neg (f:=-1) (by decide)).2.1]
  split <;> rfl
 ·show flM (nq q) X.m X.C X.f X.d=0
  unfold flM
  rw[if_pos h1]
 ·show(flS (nq q) X.m X.S X.C X.f X.d c.toNat).noWrite=_
  unfold flS
  rw[if_pos h1]
  exact st_nw _ _
structure Good(X:Dst)(b:Nat→Int)(a:Int):Prop where
 r:(lk X a).1=false
 v:∀i,i < 128→(lk X a).2 i=b i
def Rg(q:Qt)(x:Int):Prop:=(28≤x∧x < 2 * (q.1:Int)+148)∨(2 * (q.1:Int)+176≤x∧x < 4 * (q.1:Int)+296)
theorem halfq(q:Qt):halfN ((nq q:Nat):Int)=2 * (q.1:Int)+148:=by
 have hN:=q.num
 rw[hN.1]
 unfold halfN
 rw[if_neg (by omega)]
 omega
theorem Rg.lent{x:Int}(h:Rg q x):lentB (halfN ((nq q:Nat):Int)) x=true:=by
 have hN:=q.num
 rw[halfq]
 unfold Rg at h
 have hm:x % (2 * (q.1:Int)+148)=x∨(2 * (q.1:Int)+148≤x∧x % (2 * (q.1:Int)+148)=x - (2 * (q.1:Int)+148)):=by
  rcases h with h | h
  ·exact .inl (Int.emod_eq_of_lt (by omega) (by omega))
  ·refine .inr ⟨by omega,?_⟩
   rw[←Int.sub_emod_right,Int.emod_eq_of_lt (by omega) (by omega)]
 unfold lentB
 simp only[Bool.and_eq_true,decide_eq_true_eq]
 generalize x % (2 * (q.1:Int)+148)=y at *
 omega
theorem Rg.bd{x:Int}(h:Rg q x):0≤x∧x < (nq q:Int)∧x < 4096:=by have hN:=q.num; unfold Rg at h; omega
structure Ps(q:Qt)(a c:Int):Prop where
 fa:Rg q a
 fc:c = -1∨(Rg q c∧c≠a)
theorem Ps.hole{a c:Int}(h:Ps q a c)(s:Nat→Int):Pt.isHole ⟨a,c,s⟩=false:=by
 have:=h.fa.bd
 have:(a == -1)=false:=by simp; omega
 simp[Pt.isHole,Pt.eqP,Pt.hole,this]
theorem Ps.fits{a c:Int}(h:Ps q a c)(s D:Nat→Int):Pt.fitsB ⟨a,c,s⟩ D=eqB 32 s (Pt.sumD D):=by
 unfold Pt.fitsB
 rw[h.hole]
 rfl
theorem Ps.right{a c:Int}(h:Ps q a c)(s:Nat→Int):Pt.rightB ⟨a,c,s⟩=true:=by
 have ha:=h.fa.bd
 have sa:Pt.secB a=true:=Pt.secB_iff.2 (by omega)
 unfold Pt.rightB
 rw[h.hole]
 rcases h.fc with rfl | ⟨hc,hne⟩
 ·simp[sa]
 ·have hc':=hc.bd
  have sc:Pt.secB c=true:=Pt.secB_iff.2 (by omega)
  simp[sa,sc,hne]
theorem rt0(q:Qt):Rm.rightB ((nq q:Nat):Int) vM.gen vM.k vM.F vM.T=true:=by
 have hN:=q.num
 have hh:=halfq q
 unfold Rm.rightB
 rw[hh,decide_eq_true (show 2 * (q.1:Int)+148≠0 by omega)]
 rfl
theorem Ps.home{X:Dst}{a c:Int}(h:Ps q a c)(hu:Up q X)(s:Nat→Int):homB (nq q) X vM ⟨a,c,s⟩=true:=by
 unfold homB
 rw[show formedB (nq q) X.m X.C=true from hu.f,h.right,(rt0 q)]
 dsimp only
 rw[h.fa.lent]
 rcases h.fc with rfl | ⟨hc,_⟩
 ·simp
 ·rw[hc.lent]; simp
theorem t_lk{X:Dst}(h:Up q X){x:Int}(hx:Rg q x):tE (nq q) X vM x=(if (lk X x).1 then 2 else 0)∧tV (nq q) X vM x=if (lk X x).1 then fun _=>0 else (lk X x).2:=by
 have:=rE_lk (y:=x) (rm_home (M:=vM) h.f (rt0 q) hx.lent) h.d
 rw[at0] at this
 exact this
theorem Good.t{X:Dst}{b:Nat→Int}{x a c:Int}(h:Good X b x)(hu:Up q X)(hx:Rg q x)(hp:Ps q a c):tE (nq q) X vM x=0∧(∀i,i < 128→tV (nq q) X vM x i=b i)∧gdB (nq q) X vM ⟨a,c,Pt.sumD b⟩ x=true:=by
 obtain⟨e1,e2⟩:=t_lk hu hx
 rw[h.r] at e1 e2
 have hv:∀i,i < 128→tV (nq q) X vM x i=b i:=fun i hi=>by rw[e2]; exact h.v i hi
 refine⟨by rw[e1]; rfl,hv,?_⟩
 unfold gdB
 rw[e1,hp.fits,sum_same hv,eqB_same]
 rfl
theorem Good.bts{X:Dst}{b:Nat→Int}{x:Int}(h:Good X b x)(hu:Up q X)(hx:Rg q x)(hb:Di.byt b):Di.byt (tV (nq q) X vM x):=by
 rw[(t_lk hu hx).2,h.r]
 exact fun i hi=>by
  rw[if_neg (by decide),h.v i hi]
  exact hb i hi
theorem w_up{X:Dst}(hu:Up q X){x:Int}(hx:Rg q x)(hw:nw X x=false)(V:Nat→Int):wRes (nq q) X vM x V=(0,dWr (nq q) X x V,vM):=by
 have hE:=(hu.wr ⟨hx.bd.1,hx.bd.2.1⟩ hw V).1
 have e:dWrE (nq q) X (wA vM x)=0:=hE
 rw[w_c1 (rm_home (M:=vM) hu.f (rt0 q) hx.lent) (by rw[e]; decide),e]
 rfl
theorem Good.new{X:Dst}{V:Nat→Int}{x:Int}(hu:Up q X)(hx:Rg q x)(hw:nw X x=false):Good (dWr (nq q) X x V) V x:=by
 have:=lk_same (D:=V) (hu.wr ⟨hx.bd.1,hx.bd.2.1⟩ hw V).1
 exact⟨by rw[this],fun i hi=>by rw[this]⟩
theorem Good.old{X:Dst}{b V:Nat→Int}{x y:Int}(h:Good X b y)(hxy:y≠x):Good (dWr (nq q) X x V) b y:=by
 have:=lk_other (n:=(nq q)) (X:=X) (D:=V) hxy
 exact⟨by rw[this]; exact h.r,fun i hi=>by rw[this]; exact h.v i hi⟩
def Clean(q:Qt)(X:Dst):Prop:=∀x,Rg q x→nw X x=false
structure Laid(q:Qt)(X:Dst)(V:Nat→Int)(a c:Int)(R:PR):Prop where
 p:R.p=⟨a,c,Pt.sumD V⟩
 e:R.e=0
 M:R.M=vM
 u:Up q R.X
 cl:Clean q R.X
 m:R.X.m≤X.m+2
 ga:Good R.X V a
 gc:c≠-1→Good R.X V c
 old:∀b y,y≠a→y≠c→Good X b y→Good R.X b y
theorem put_up{X:Dst}{V:Nat→Int}{a c:Int}(hu:Up q X)(hc:Clean q X)(hp:Ps q a c):Laid q X V a c (pRes (nq q) X vM V a c)∧wRes (nq q) X vM a V=(0,dWr (nq q) X a V,vM):=by
 have hO:Pt.ofE V a c=0:=by
  unfold Pt.ofE
  rw[if_pos ⟨hp.hole _,hp.right _⟩]
 have w1:=w_up hu hp.fa (hc a hp.fa) V
 obtain⟨_,u1,m1,n1⟩:=hu.wr ⟨hp.fa.bd.1,hp.fa.bd.2.1⟩ (hc a hp.fa) V
 have g1:Good (dWr (nq q) X a V) V a:=Good.new hu hp.fa (hc a hp.fa)
 have c1:Clean q (dWr (nq q) X a V):=fun x hx=>by rw[n1]; exact hc x hx
 refine⟨?_,w1⟩
 rcases hp.fc with rfl | ⟨hcr,hne⟩
 ·rw[p_one (M:=vM) hO (hp.home hu _) (by rw[w1]) rfl,w1]
  exact⟨rfl,rfl,rfl,u1,c1,by show(dWr (nq q) X a V).m≤_; omega,g1,fun h=>absurd rfl h,fun b y h1 _ hg=>hg.old h1⟩
 ·have w2:=w_up u1 hcr (c1 c hcr) V
  obtain⟨_,u2,m2,n2⟩:=u1.wr ⟨hcr.bd.1,hcr.bd.2.1⟩ (c1 c hcr) V
  have hcn:c≠-1:=by have:=hcr.bd; omega
  rw[p_two (M:=vM) hO (hp.home hu _) (by rw[w1]) hcn (by rw[w1]; dsimp only; rw[w2]),w1]
  dsimp only
  rw[w2]
  exact⟨rfl,rfl,rfl,u2,fun x hx=>by show nw (dWr (nq q) (dWr (nq q) X a V) c V) x=false; rw[n2]; exact c1 x hx,by show(dWr (nq q) (dWr (nq q) X a V) c V).m≤_; omega,g1.old (Ne.symm hne),fun _=>Good.new u1 hcr (c1 c hcr),fun b y h1 h2 hg=>(hg.old h1).old h2⟩
theorem get_up{X:Dst}{b:Nat→Int}{a c:Int}(hu:Up q X)(hp:Ps q a c)(h:Good X b a):gRes (nq q) X vM ⟨a,c,Pt.sumD b⟩=⟨tV (nq q) X vM a,0,0,X,vM⟩∧∀i,i < 128→tV (nq q) X vM a i=b i:=by
 obtain⟨_,v1,g1⟩:=h.t hu hp.fa hp
 have ha:=hp.fa.bd
 exact⟨g_one (hp.home hu _) (show a≠-1 by omega) hu.d g1,v1⟩
def vX1(q:Qt):Dst:=fmX (nq q) vX0
theorem vX0_up:Up q vX0:=⟨by
 have hN:=q.num
 show formedB (nq q) 0 _=true
 unfold formedB
 rw[decide_eq_true (show 1≤nq q by omega),decide_eq_true (show nq q≤4096 by omega)]
 rfl,rfl,rfl⟩
theorem fresh_up:fmE (nq q) vX0=0∧Up q (vX1 q)∧(vX1 q).m=0∧Clean q (vX1 q):=by
 have hN:=q.num
 have hh:hfN (nq q) vX0=2 * (q.1:Int)+148:=by rw[(vX0_up (q:=q)).f.hf]; exact halfq q
 obtain⟨e0,u1,m1,w1⟩:=(vX0_up (q:=q)).wr (a:=((0:Nat):Int) * (2 * (q.1:Int)+148)) ⟨by simp,by simp; omega⟩ rfl (tab0 (nq q))
 obtain⟨e1,u2,m2,w2⟩:=u1.wr (a:=((1:Nat):Int) * (2 * (q.1:Int)+148)) ⟨by simp; omega,by simp; omega⟩ (by rw[w1]; rfl) (tab0 (nq q))
 obtain⟨e2,u3,m3,w3⟩:=u2.fl
 have hc:∀c',c' < 2→fmC (nq q) (hfN (nq q) vX0) (tab0 (nq q)) vX0 c'=0:=fun c' h=>by
  rw[hh]
  match c',h with
  | 0,_=>exact e0
  | 1,_=>exact e1
 obtain⟨h1,h2⟩:=(fm_cases (nq q) vX0).2.2 (by rw[hh]; omega) hc
 rw[hh] at h1 h2
 have hX:vX1 q=dFl (nq q) (dWr (nq q) (dWr (nq q) vX0 (((0:Nat):Int) * (2 * (q.1:Int)+148)) (tab0 (nq q))) (((1:Nat):Int) * (2 * (q.1:Int)+148)) (tab0 (nq q))):=h2
 refine⟨by rw[h1]; exact e2,by rw[hX]; exact u3,by rw[hX]; exact m3,fun x hx=>?_⟩
 rw[hX,w3,w2,w1]
 rfl
end Qv
namespace Vl
open Go.RowKit Dk Gm Eqb Rm Vm Di
def g4:Array Value:=#[.int .i64 332,.int .i64 156,.int .i64 2,.int .i64 4,.int .i64 28,.int .i64 128]
theorem vol_one(sa:Option Addr)(n sc:Nat)(ca:Option Addr)(m cc:Nat)(fu:Int)(d:Bool)(gen:Int)(pa:Option Addr)(k cap:Nat)(A B Z:Int)(ao:Option Addr)(kk kc:Nat) :
  (#[.slice sa n sc,.slice ca m cc,.int .i64 fu,.bool d,.int .i64 gen,.slice pa k cap,.int .i64 A,.int .i64 B,.int .i64 Z,.slice ao kk kc]:Array Value).all (·.oneCell')=true:=by simp[Value.oneCell']
theorem vol_size(v0 v1 v2 v3 v4 v5 v6 v7 v8 v9:Value):(Tryz.prog.info? 39).map (·.size)=some (#[v0,v1,v2,v3,v4,v5,v6,v7,v8,v9]:Array Value).size:=by show _=some 10; kernel_rfl
theorem Vb.results2{w:World}{b:Nat}{v0 v1 v2 v3 v4 v5 v6 v7 v8 v9:Value}{e:Int}(h:Vb w b v0 v1 v2 v3 v4 v5 v6 v7 v8 v9){tmps:Array Value}{fn:Func}{s r:Nat}(hf:fn.results=#[.cell s 39,.tmp r])(h2:tmps.getD s undef=.pointer (some ⟨b,0,none⟩))(h3:tmps.getD r undef=.int .i64 e) :
  (Go.results fn tmps).run Tryz.prog w=.ok (.tuple #[.agg #[v0,v1,v2,v3,v4,v5,v6,v7,v8,v9],.int .i64 e]) w:=by
 have h2':tmps[s]?.getD undef=.pointer (some ⟨b,0,none⟩):=by simpa using h2
 have h3':tmps[r]?.getD undef=.int .i64 e:=by simpa using h3
 have hv:=run_loadVar_row (P:=Tryz.prog) w b 39 39 #[v0,v1,v2,v3,v4,v5,v6,v7,v8,v9] (0,0) _ h undV rfl (by show _=some 10; kernel_rfl)
 simp[Go.results,hf,h2',h3',asAddr,hv]
end Vl
namespace Vl
open Go.RowKit Dk Gm Eqb Rm Vm Di
theorem lay_row{w:World}{b g:Nat}{ao:Option Addr}{n cap k:Nat}{T:Nat→List Value}{t t':TypeId}{cur:Array Value}{fr:Nat × Nat}(hl:Lay w w.heap.size g ao n cap k T)(ht:Ty w n ao t)(hb:w.heap[b]?=some (.cells cur t' fr))(hne:t'≠t)(c:Array Value) :
  Lay (w.setRow b c) (w.setRow b c).heap.size (w.setRow b c).heap.size ao n cap k T∧Ty (w.setRow b c) n ao t:=by
 have hg:w.grownBy (w.setRow b c) (some b):=gR c
 have hz:=ht.ne hb hne
 constructor
 ·refine Lay.more (B:=w.heap.size) ⟨hl.room,hl.nil,?_⟩ hg.size
  rcases hl.rows with h0 | ⟨q,off,e,hq,_,hr⟩
  ·exact .inl h0
  ·rcases hz with h0 | hz
   ·exact .inl h0
   ·exact .inr ⟨q,off,e,hq,by have:=hg.size; omega,fun i hi j v hv=>(World.cell?_of_block (hg.block q hq (by simpa using hz q off _ e))).trans (hr i hi j v hv)⟩
 ·rcases hz with h0 | hz
  ·exact .inl h0
  ·exact ht.grown2 (g:=g) hg hl fun q o e=>.inr (by simpa using hz q o _ e)
end Vl
end Go.Proofs.YtknjmamhijlnaaaGreatDoor
