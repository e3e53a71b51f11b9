import Derived.Test.YteaocagepfgfnaaGreatDoorPStDd
import Derived.Test.YteaocagepfgfnaaGreatDoorPStX
import Derived.Test.YteaocagepfgfnaaGreatDoorPStL
import Derived.Test.YteaocagepfgfnaaGreatDoorPAl
set_option maxRecDepth 100000
set_option maxHeartbeats 8000000
namespace Go.Proofs.YteaocagepfgfnaaGreatDoor
namespace St
open Go.RowKit Dk Gm Eqb Rm Di Vl Qv Sp
open Vm (HasVol vM)
variable {q:Qt}{X:Dst}{f:Nat→Int}{H:List Hd}
def Tr.all(P:(Nat→Int)→Prop):Tr→Prop
 | .no=>True
 | .leaf _ b=>P b
 | .node _ a b c=>Tr.all P a∧Tr.all P b∧Tr.all P c
theorem all_ch{P:(Nat→Int)→Prop}{T:Tr}(h:T.all P)(i:Nat):(T.ch i).all P:=by
 cases T with
 | no=>cases i <;> exact trivial
 | leaf p b=>cases i <;> exact trivial
 | node p a b c=>
  obtain⟨h0,h1,h2⟩:=h
  match i with
  | 0=>exact h0
  | 1=>exact h1
  | 2=>exact h2
  | n+3=>exact trivial
theorem all_of{P:(Nat→Int)→Prop}{d:Nat}{T:Tr}(ho:T.ok (d+1))(h:∀k,k < 3→(T.ch k).all P):T.all P:=by
 cases T with
 | no=>exact trivial
 | leaf p b=>exact ho.elim
 | node p a b e=>exact⟨h 0 (by omega),h 1 (by omega),h 2 (by omega)⟩
theorem bl_zero{D:Nat→Int}(h:Wd.zeroB D 128=true):bl zb=bl D:=bl_same fun i hi=>(Wd.zeroB_true.1 h i hi).symm
def Apt(P:(Nat→Int)→Prop):Prop:=∀b b',P b→P b'→eqB 32 (Pt.sumD b) (Pt.sumD b')=true→bl b=bl b'
theorem lyf_t{c:Nat}(hc:c=1∨c=2){P:(Nat→Int)→Prop}(hPc:Apt P){D:Nat→Int}(hD:Di.byt D)(hPD:P D)(p0:Pt.Pn)(s0:Int){T:Tr}(hP:Py q X f H)(ho:T.ok 0)(hon:T.on H)(hcp:T.cp c)(hal:T.all P)(hm:X.m+2≤90000) :
  ∃X' f' N T' g E rp,Stp q c 0 1 T X f H X' f' N T' g E rp∧(E=0→T'.all P∧bl (T'.at 0 0)=bl D)∧
   ∀(w:World) (V:Pl) (wb:Nat) (gv:Value) (G:List Pt.Pn),Wt w V wb gv q X f (sV p0 s0 c) gv G w→G.length≤900000→
    Calls Tryz.prog 79 #[.pointer (some ⟨wb,0,none⟩),.agg (Pt.pV T.root).toArray,.agg (bl D).toArray] w fun e w'=>∃gv2,e=.returned (.tuple #[.agg (Pt.pV rp).toArray,.int .i64 E])∧Wt w V wb gv q X' f' (sV p0 s0 c) gv2 (G ++ g) w':=by
 have hmX:X.m≤90000:=by omega
 cases hF:Pt.fitsB T.root D with
 | true=>
  have key:kpB T.root c=true∧bl (T.at 0 0)=bl D∧∀(w':World) (V:Pl),Rm.Kp w'→HV w' V q X f→Calls Tryz.prog 43 #[.pointer (some ⟨V.b,V.o,none⟩),.agg (Pt.pV T.root).toArray] w' fun e w''=>e=.returned (.tuple #[.agg (bl D).toArray,.int .i64 0])∧TV w' V q X f w'':=by
   cases T with
   | no=>
    have hz:Wd.zeroB D 128=true:=by
     have:=hF
     unfold Pt.fitsB at this
     rw[show Pt.isHole (Tr.root .no)=true from isHole_hole,if_pos rfl] at this
     exact this
    refine⟨?_,bl_zero hz,fun w' V hk hv=>q_get (hP.hole hD hz) hmX (x:=(Pt.hole,D)) (List.mem_append_right _ (List.mem_singleton.2 rfl)) hk hv⟩
    unfold kpB
    rw[show Pt.isHole (Tr.root .no)=true from isHole_hole]
    rfl
   | leaf p b=>
    have hmem:(p,b) ∈ H:=hon _ (by simp[Tr.held])
    obtain⟨hA,_,he,_⟩:=el_A (hP.el _ hmem) (.inl ho)
    have hS:p.S=Pt.sumD b:=by
     have:p=⟨p.A,p.B,Pt.sumD b⟩:=he
     rw[this]
    have hbD:bl b=bl D:=by
     have h2:=hF
     unfold Pt.fitsB at h2
     rw[show Pt.isHole (Tr.root (.leaf p b))=false from hole_A hA,if_neg (by decide)] at h2
     rw[show(Tr.leaf p b).root.S=Pt.sumD b from hS] at h2
     exact hPc b D hal hPD h2
    refine⟨?_,hbD,fun w' V hk hv=>by have:=q_get hP hmX hmem hk hv; rw[hbD] at this; exact this⟩
    ·have hb:p.B = -1↔(c:Int)=1:=hcp
     unfold kpB
     show(Pt.isHole p || ((p.B == -1) == ((c:Int) == 1)))=true
     have e:(p.B == -1)=((c:Int) == 1):=by
      rw[Bool.eq_iff_iff,beq_iff_eq,beq_iff_eq]
      exact hb
     rw[e]
     simp
   | node p a b e=>exact ho.elim
  obtain⟨hK,hB,hG⟩:=key
  have hs:Stp q c 0 1 T X f H X f [] T [] 0 T.root:=Stp.same hP ho hon hcp
  refine⟨X,f,[],T,[],0,T.root,hs,fun _=>⟨hal,hB⟩,fun w V wb gv G hw _=>?_⟩
  refine(layleaf_keep hw T.root D hD hF hK (fun w' hk hv=>hG w' V hk hv)).mono ?_
  rintro e w' ⟨h1,h2⟩
  exact⟨gv,h1,by rw[List.append_nil]; exact h2⟩
 | false=>
  obtain⟨p1,E1,X',f',hm',hcall,hor⟩:=q_add hP hmX hc hD
  have hcalls:∀{g:List Pt.Pn},g=(if E1=0 then [T.root] else [])→∀(w:World) (V:Pl) (wb:Nat) (gv:Value) (G:List Pt.Pn),Wt w V wb gv q X f (sV p0 s0 c) gv G w→G.length≤900000→
    Calls Tryz.prog 79 #[.pointer (some ⟨wb,0,none⟩),.agg (Pt.pV T.root).toArray,.agg (bl D).toArray] w fun e w'=>∃gv2,e=.returned (.tuple #[.agg (Pt.pV (if E1=0 then p1 else Pt.pz)).toArray,.int .i64 E1])∧Wt w V wb gv q X' f' (sV p0 s0 c) gv2 (G ++ g) w':=by
   intro g hg w V wb gv G hw hG
   refine layleaf_put1 hw T.root D hD hF (p2:=if E1=0 then p1 else Pt.pz) (E1:=E1) (G':=G ++ g) fun w' gv' hw'=>?_
   refine(put_any hw' (sV_length p0 s0 c) T.root D c hG (fun w2 hk hv=>hcall w2 V hk hv)).mono ?_
   rintro e w2 ⟨gv2,h1,h2⟩
   refine⟨gv2,h1,?_⟩
   have e2:(if E1=0 then G ++ [T.root] else G)=G ++ g:=by
    rw[hg]
    split
    ·rfl
    ·rw[List.append_nil]
   rw[e2] at h2
   exact h2
  have hleaf:∀{p b},T=.leaf p b→p.A≠-1∧(p,b) ∈ H:=fun {p b} e=>by
   subst e
   have hmem:(p,b) ∈ H:=hon _ (by simp[Tr.held])
   exact⟨(el_A (hP.el _ hmem) (.inl ho)).1,hmem⟩
  rcases hor with ⟨hE,hPy,hz | ⟨hz,hA,hB⟩,hrm⟩ | ⟨hE,hz,hX,hf,hno⟩
  ·obtain⟨hz,hp1,hf⟩:=hz
   subst hE hp1
   have hPy':=St.Py.unhole hPy
   refine⟨X',f',[],.no,[T.root],0,Pt.hole,⟨by omega,by rw[List.append_nil]; exact hPy',by simp,fun _=>⟨rfl,⟨trivial,(fun x hx=>by simp[Tr.held] at hx),trivial,?_,.inr ?_⟩,fun n hn=>hrm n hn⟩,fun h=>absurd rfl h⟩,fun _=>⟨trivial,bl_zero hz⟩,hcalls rfl⟩
   ·cases T with
    | no=>exact⟨[],by simp[Tr.held],nh_hole.symm⟩
    | leaf p b=>exact⟨[(p,b)],by simp[Tr.held],(nh_root (hleaf rfl).1).symm⟩
    | node p a b e=>exact ho.elim
   ·cases T with
    | no=>
     exfalso
     unfold Pt.fitsB at hF
     rw[show Pt.isHole (Tr.root .no)=true from isHole_hole,if_pos rfl,hz] at hF
     cases hF
    | leaf p b=>
     show Pt.eqP Pt.hole p=false
     unfold Pt.eqP
     rw[show(Pt.hole.A == p.A)=false from beq_eq_false_iff_ne.2 (Ne.symm (hleaf rfl).1)]
     rfl
    | node p a b e=>exact ho.elim
  ·subst hE
   refine⟨X',f',[(p1,D)],.leaf p1 D,[T.root],0,p1,⟨by omega,hPy,by simp,fun _=>⟨rfl,⟨hz,(fun x hx=>by simp[Tr.held] at hx; subst hx; exact List.mem_append_right _ (List.mem_singleton.2 rfl)),?_,?_,.inr ?_⟩,fun n hn=>hrm n hn⟩,fun h=>absurd rfl h⟩,fun _=>⟨hPD,rfl⟩,hcalls rfl⟩
   ·show p1.B = -1↔(c:Int)=1
    rw[hB]
    omega
   ·cases T with
    | no=>exact⟨[],by simp[Tr.held],nh_hole.symm⟩
    | leaf p b=>exact⟨[(p,b)],List.Perm.swap _ _ _,(nh_root (hleaf rfl).1).symm⟩
    | node p a b e=>exact ho.elim
   ·show Pt.eqP p1 T.root=false
    have hne:p1.A≠T.root.A:=by
     cases T with
     | no=>exact hA
     | leaf p b=>exact Ne.symm (hPy.fresh hA (p,b) (hleaf rfl).2)
     | node p a b e=>exact ho.elim
    unfold Pt.eqP
    rw[show(p1.A == T.root.A)=false from beq_eq_false_iff_ne.2 hne]
    rfl
  ·subst hX hf
   have hE0:E1≠0:=by omega
   refine⟨X',f',[],T,[],E1,if E1=0 then p1 else Pt.pz,⟨by omega,by rw[List.append_nil]; exact hP,by simp,fun h=>absurd h hE0,fun _=>⟨hE,hno⟩⟩,fun h=>absurd h hE0,hcalls (by rw[if_neg hE0])⟩
end St
namespace St
open Go.RowKit Go.Shelf Dk Gm Eqb Rm Di Vl Qv Sp
open Vm (HasVol vM)
variable {q:Qt}{X:Dst}{f:Nat→Int}{H:List Hd}
theorem enters_lay1:Enters Tryz.prog 81:=fun args w=>enters_of Tryz.func81 (by kernel_rfl) rfl args w
theorem LayCap.keep{w w':World}{V:Pl}{wb:Nat}{gv gv':Value}{bi bwd bw bd bb d i:Nat}{D:Nat→Int}(h:LayCap w V wb gv bi bwd bw bd bb d i D)(hk:∀b,Lk V wb gv w b→w'.heap[b]?=w.heap[b]?∧Lk V wb gv' w' b):LayCap w' V wb gv' bi bwd bw bd bb d i D:=
 ⟨(hk _ h.ki).2,(hk _ h.ki).1.trans h.ri,(hk _ h.kv).2,(hk _ h.kv).1.trans h.rv,(hk _ h.kw).2,(hk _ h.kw).1.trans h.rw,(hk _ h.kd).2,(hk _ h.kd).1.trans h.rd,(hk _ h.kb).2,(hk _ h.kb).1.trans h.rb⟩
theorem at_succ(d:Nat)(T:Tr)(j:Nat):T.at (d+1) j=(T.ch (j / wd d)).at d (j % wd d):=by cases T <;> rfl
theorem div3{d j:Nat}(h:j < wd (d+1)):j / wd d < 3:=Nat.div_lt_of_lt_mul (by rw[Nat.mul_comm]; exact h)
theorem eq_divmod{n a b:Nat}:a=b↔a / n=b / n∧a % n=b % n:=
 ⟨fun e=>by rw[e]; exact⟨rfl,rfl⟩,fun h=>by rw[←Nat.div_add_mod a n,←Nat.div_add_mod b n,h.1,h.2]⟩
theorem sum3{k n:Nat}(h:k < 3):(if 0=k then n else 0)+(if 1=k then n else 0)+(if 2=k then n else 0)=n:=by
 rcases (show k=0∨k=1∨k=2 by omega) with e | e | e <;> subst e <;> simp
def LyP(c:Nat)(D:Nat→Int)(p0:Pt.Pn)(s0:Int)(q:Qt)(T:Tr)(d k0 i':Nat)(k:Nat)(X:Dst)(f:Nat→Int)(X':Dst)(f':Nat→Int)(g:List Pt.Pn)(rp:Pt.Pn)(E:Int):Prop:=
 (k=k0→∀(w:World) (V:Pl) (wb:Nat) (gv:Value) (G:List Pt.Pn),Wt w V wb gv q X f (sV p0 s0 c) gv G w→G.length+((T.ch k).held.length+(d+1))≤900000→
  Calls Tryz.prog 47 #[.pointer (some ⟨wb,0,none⟩),.agg (Pt.pV (T.ch k).root).toArray,.int .i64 (d:Int),.int .i64 (i':Int),.agg (bl D).toArray] w fun e w'=>∃gv2,e=.returned (.tuple #[.agg (Pt.pV rp).toArray,.int .i64 E])∧Wt w V wb gv q X' f' (sV p0 s0 c) gv2 (G ++ g) w')∧
 (k≠k0→X'=X∧f'=f∧g=[]∧rp=(T.ch k).root∧E=0)
theorem lay_t{c:Nat}(hc:c=1∨c=2){P:(Nat→Int)→Prop}(hPc:Apt P){D:Nat→Int}(hD:Di.byt D)(hPD:P D)(p0:Pt.Pn)(s0:Int):∀(d:Nat) (T:Tr) (i:Nat) (X:Dst) (f:Nat→Int) (H:List Hd),d≤9→Py q X f H→T.ok d→T.on H→T.cp c→T.all P→i < wd d→X.m+2 * (d+1)≤90000→
  ∃X' f' N T' g E rp,Stp q c d (d+1) T X f H X' f' N T' g E rp∧(E=0→T'.all P∧∀j,j < wd d→bl (T'.at d j)=if j=i then bl D else bl (T.at d j))∧
   ∀(w:World) (V:Pl) (wb:Nat) (gv:Value) (G:List Pt.Pn),Wt w V wb gv q X f (sV p0 s0 c) gv G w→G.length+(T.held.length+(d+1))≤900000→
    Calls Tryz.prog 47 #[.pointer (some ⟨wb,0,none⟩),.agg (Pt.pV T.root).toArray,.int .i64 (d:Int),.int .i64 (i:Int),.agg (bl D).toArray] w fun e w'=>∃gv2,e=.returned (.tuple #[.agg (Pt.pV rp).toArray,.int .i64 E])∧Wt w V wb gv q X' f' (sV p0 s0 c) gv2 (G ++ g) w'
 | 0,T,i,X,f,H,_,hP,ho,hon,hcp,hal,hi,hm=>by
  obtain⟨X',f',N,T',g,E,rp,h1,h2,h3⟩:=lyf_t hc hPc hD hPD p0 s0 hP ho hon hcp hal (by omega)
  obtain rfl:i=0:=by have:wd 0=1:=rfl; omega
  refine⟨X',f',N,T',g,E,rp,h1,fun e=>⟨(h2 e).1,fun j hj=>?_⟩,fun w V wb gv G hw hG=>?_⟩
  ·obtain rfl:j=0:=by have:wd 0=1:=rfl; omega
   rw[if_pos rfl]
   exact(h2 e).2
  ·exact lay_leaf hw T.root 0 D fun w' hw'=>h3 w' V wb gv G hw'.self (by omega)
 | d+1,T,i,X,f,H,hd,hP,ho,hon,hcp,hal,hi,hm=>by
  have hk0:i / wd d < 3:=div3 hi
  have hi':i % wd d < wd d:=Nat.mod_lt _ (wd_pos d)
  have hsum:(if 0=i / wd d then d+1 else 0)+(if 1=i / wd d then d+1 else 0)+(if 2=i / wd d then d+1 else 0)=d+1:=sum3 hk0
  have key:=each_t (c:=c) (T:=T) (cost:=fun k=>if k=i / wd d then d+1 else 0) hP ho hon
   (fun k T'=>T'.all P∧∀j,j < wd d→bl (T'.at d j)=if k=i / wd d∧j=i % wd d then bl D else bl ((T.ch k).at d j))
   (LyP c D p0 s0 q T d (i / wd d) (i % wd d)) (by show X.m+2 * ((if 0=i / wd d then d+1 else 0)+(if 1=i / wd d then d+1 else 0)+(if 2=i / wd d then d+1 else 0)+1)≤90000; rw[hsum]; omega)
   (fun k hk X f H hP2 hon2 hm2=>by
    by_cases e:k=i / wd d
    ·have hm3:X.m+2 * (d+1)≤90000:=by
      have:X.m+2 * (if k=i / wd d then d+1 else 0)≤90000:=hm2
      rwa [if_pos e] at this
     obtain⟨X',f',N,T',g,E,rp,h1,h2,h3⟩:=lay_t hc hPc hD hPD p0 s0 d (T.ch k) (i % wd d) X f H (by omega) hP2 (ok_ch ho k) hon2 (cp_ch hcp k) (all_ch hal k) hi' hm3
     refine⟨X',f',N,T',g,E,rp,?_,fun e0=>⟨(h2 e0).1,fun j hj=>?_⟩,fun _=>h3,fun h=>absurd e h⟩
     ·show Stp q c d (if k=i / wd d then d+1 else 0) _ _ _ _ _ _ _ _ _ _ _
      rw[if_pos e]
      exact h1
     ·rw[(h2 e0).2 j hj]
      by_cases ej:j=i % wd d
      ·rw[if_pos ej,if_pos ⟨e,ej⟩]
      ·rw[if_neg ej,if_neg fun h=>ej h.2]
    ·refine⟨X,f,[],T.ch k,[],0,(T.ch k).root,Stp.same hP2 (ok_ch ho k) hon2 (cp_ch hcp k),fun _=>⟨all_ch hal k,fun j hj=>by rw[if_neg fun h=>e h.1]⟩,fun h=>absurd h e,fun _=>⟨rfl,rfl,rfl,rfl,rfl⟩⟩)
  obtain⟨X',f',N,T',g,E,rp,h1,h2,h3⟩:=key
  have h1':Stp q c (d+1) (d+1+1) T X f H X' f' N T' g E rp:=by
   have:Stp q c (d+1) ((if 0=i / wd d then d+1 else 0)+(if 1=i / wd d then d+1 else 0)+(if 2=i / wd d then d+1 else 0)+1) T X f H X' f' N T' g E rp:=h1
   rwa [hsum] at this
  refine⟨X',f',N,T',g,E,rp,h1',fun e0=>⟨all_of (h1'.ok e0).2.1.ok fun k hk=>(h2 e0 k hk).1,fun j hj=>?_⟩,fun w V wb gv G hw hG=>?_⟩
  ·have hj3:=div3 hj
   rw[at_succ,at_succ,(h2 e0 _ hj3).2 _ (Nat.mod_lt _ (wd_pos d))]
   by_cases ej:j=i
   ·rw[if_pos ej,if_pos (eq_divmod.1 ej)]
   ·rw[if_neg ej,if_neg fun h=>ej (eq_divmod.2 h)]
  ·rw[show((d+1:Nat):Int)=(d:Int)+1 by omega]
   refine lay_node hw T.root i D (by omega) hi fun w' bi bwd bw bd bb hw' hcap=>?_
   have hG':G.length+(T.held.length+((if 0=i / wd d then d+1 else 0)+(if 1=i / wd d then d+1 else 0)+(if 2=i / wd d then d+1 else 0)+1))≤900000:=by rw[hsum]; omega
   refine h3 w' V wb gv (sV p0 s0 c) G _ _ hw'.self (sV_length p0 s0 c) enters_lay1 hG' ?_
   intro k X2 f2 X2' f2' g2 rp2 E2 hk3 hPk G' w2 gv' hlen hkeep hW2
   have hcap2:=hcap.keep hkeep
   by_cases e:k=i / wd d
   ·have hl:G'.length+((T.ch k).held.length+(d+1))≤900000:=by
     have h4:G'.length+((T.ch k).held.length+(if k=i / wd d then d+1 else 0))≤G.length+(T.held.length+((if 0=i / wd d then d+1 else 0)+(if 1=i / wd d then d+1 else 0)+(if 2=i / wd d then d+1 else 0)+1)):=hlen
     rw[if_pos e] at h4
     omega
    exact lay1_go hW2 hcap2 (by omega) hi (T.rts k) k hk3 e fun w3 gv3 hw3=>hPk.1 e w3 V wb gv3 G' hw3 hl
   ·obtain⟨e1,e2,e3,e4,e5⟩:=hPk.2 e
    subst e1 e2 e3 e4 e5
    refine(lay1_skip hW2 hcap2 (by omega) hi (T.rts k) k hk3 e).mono ?_
    rintro e w3 ⟨a1,a2⟩
    exact⟨gv',a1,by rw[List.append_nil]; exact a2⟩
end St
namespace St
open Go.RowKit Dk Gm Eqb Rm Di Vl Qv Sp
open Vm (HasVol vM)
attribute [local go_sem] Pt.zvP Pt.zv3 zv29
attribute [local go_sem] Pt.zc3 zc29
def DaInv(x1 x2 x3 x5 x6 x7 x8 x9 x10 x11 x12 x13 x21:Value)(w W:World)(V:Pl)(wb:Nat)(gv:Value)(q:Qt)(X:Dst)(f f':Nat→Int)(st:List Value)(G:List Pt.Pn)(b4:Nat)(p:Pt.Pn)(L:Nat→Bool)(a':Act)(w':World):Prop:=
 ∃u0 u1 u2 u3 u4 u5 u6,a'={ tmps:=#[.pointer (some ⟨wb,0,none⟩),x1,x2,x3,.pointer (some ⟨b4,0,none⟩),x5,x6,x7,x8,x9,x10,x11,x12,x13,u0,u1,u2,u3,u4,u5,u6,x21],defers:=[] }∧Fa L [(0,u0,.pointer (some ⟨wb,0,none⟩)),(1,u1,.pointer (some ⟨wb,0,none⟩)),(2,u2,.pointer (some ⟨wb,0,none⟩)),(3,u3,.pointer (some ⟨V.b,V.o,none⟩)),(4,u4,.agg (Pt.pV p).toArray),(5,u5,.int .i64 0),(6,u6,.bool false)]∧Od L []∧Pa w W V wb gv q X f X f' st G 24 [] [] (L 5) false false (.bool false) w'
theorem drop_any{w:World}{V:Pl}{wb:Nat}{gv:Value}{q:Qt}{X:Dst}{f:Nat→Int}{st:List Value}{G:List Pt.Pn}(hw:Wt w V wb gv q X f st gv G w)(hst:st.length=36)(hG:G.length≤1000000)(fs:Nat→Nat→Int)(h0:fs 0=f)
  (HD:∀j p,G[j]?=some p→∀w',Rm.Kp w'→HV w' V q X (fs j)→Calls Tryz.prog 106 #[.pointer (some ⟨V.b,V.o,none⟩),.agg (Pt.pV p).toArray] w' fun e w''=>e=.returned (.int .i64 0)∧TV w' V q X (fs (j+1)) w'') :
  Calls Tryz.prog 78 #[.pointer (some ⟨wb,0,none⟩)] w fun e w'=>e=.returned (.int .i64 0)∧Wt w V wb gv q X (fs G.length) st gv G w':=by
 have gc:=hw.gone hst
 obtain⟨ao,cp,rfl⟩:=hw.o.shape
 subst h0
 have HW:=Lib.hid hw
 have HDD:=Lib.hid HD
 clear hw HD
 go_enter Tryz.func78,Tryz.ntmps78
 go_wp2_with fail
 go_loopw [10] (fun a wr=>∃j:Nat,a=.int .i64 (j:Int)∧j≤G.length∧Hid (Wt w V wb (.slice ao G.length cp) q X (fs j) st (.slice ao G.length cp) G wr)) (fun a _=>G.length - (intOf a).toNat)
 case atStart=>exact⟨0,rfl,by omega,HW⟩
 case round=>
  clear HW gc
  obtain⟨j,rfl,hj,hR⟩:=hrel
  by_cases hlt:j < G.length
  ·obtain⟨p,hp⟩:∃p,G[j]?=some p:=⟨_,List.getElem?_eq_getElem hlt⟩
   obtain⟨bg,rfl,hbg⟩:=hR.out.o.at (by omega)
   have hr:=(hR.out.o.ptr hp).1
   have HDR:=Lib.hid (HDD.out j p hp)
   obtain⟨w5,hW5,hwW5,hsW5,_,hbx5,_⟩:=hR.out.boxes [((Pt.pV p).toArray,24)]
   obtain⟨r4,k4⟩:=hbx5 0 _ rfl
   simp only[List.foldl_cons,List.foldl_nil] at hW5
   have r4':w5.heap[wr.heap.size]?=some (.cells (Pt.pV p).toArray 24 (0,0)):=r4
   have k4':Lk V wb (.slice (some ⟨bg,0,none⟩) G.length cp) w5 wr.heap.size:=k4
   have R4:=Lib.hid r4'
   have K4:=Lib.hid k4'
   have HW5:=Lib.hid hwW5
   have hWw:=hwW5.sz
   have hj0:(0:Int)≤(j:Int):=by omega
   have hj1:(j:Int) < (G.length:Int):=by omega
   clear hwW5 hbx5 r4 k4 r4' k4' hp HDD
   go_upto_region 4 with (first | (refine wpList_load_mid rfl 24 (.tmp 12) rfl bg (j * 34) rfl (Pt.pV p) _ (by exact hr) Pt.undP rfl (Pt.sizeP p) ?_; simp only[Act.put,aA]) | (refine @wpList_store_row _ _ _ _ _ _ _ rfl 24 (.tmp 4) (.tmp 13) rfl wr.heap.size (Pt.pV p).toArray rfl rfl 24 _ (heap_alloc_new wr _) (Pt.sizeP' _) rfl (Pt.pV_all _) ?_; simp only[Act.put]; rw[World.setRow_alloc_new,←hW5]))
   clear hr hW5
   generalize wr.heap.size=b4 at *
   refine QuietTail2.regionInv (n:=7) (Inv:=DaInv _ _ _ _ _ _ _ _ _ _ _ _ _ w5 w5 V wb (.slice (some ⟨bg,0,none⟩) G.length cp) q X (fs j) (fs (j+1)) st G b4 p) (by kernel_rfl) (by decide) (by kernel_rfl) ⟨_,_,_,_,_,_,_,rfl,Fa.none _,Od.none _,?_⟩ ?step ?fin
   exact Pa.start HW5.out.self
   case step=>
    rintro i o hi ho L a' w' ⟨u0,u1,u2,u3,u4,u5,u6,rfl,TF,TO,TW⟩ hL hpre
    match i,hi with
    | 0,_=>
     simp at ho
     subst ho
     go_simp
     exact⟨_,u1,u2,u3,u4,u5,u6,rfl,TF.set 0,TO.set 0 trivial,TW⟩
    | 1,_=>
     simp at ho
     subst ho
     obtain rfl:=TF.1 (hpre 0 (by kernel_rfl))
     go_simp
     exact⟨_,_,u2,u3,u4,u5,u6,rfl,TF.set 1,TO.set 1 trivial,TW⟩
    | 2,_=>
     simp at ho
     subst ho
     obtain rfl:=TF.2.1 (hpre 1 (by kernel_rfl))
     go_simp
     exact⟨u0,_,_,u3,u4,u5,u6,rfl,TF.set 2,TO.set 2 trivial,TW⟩
    | 3,_=>
     simp at ho
     subst ho
     obtain rfl:=TF.2.2.1 (hpre 2 (by kernel_rfl))
     have hvp:=TW.vol
     go_simp
     exact⟨u0,u1,_,_,u4,u5,u6,rfl,TF.set 3,TO.set 3 trivial,TW⟩
    | 4,_=>
     simp at ho
     subst ho
     refine wp_load_mid 24 (.tmp 4) rfl b4 0 rfl (Pt.pV p) _ (Pt.rP ((TW.k _ K4.out).1.trans R4.out)) Pt.undP rfl (Pt.sizeP p) ?_
     simp only[Act.put,aA]
     exact⟨u0,u1,u2,u3,_,u5,u6,rfl,TF.set 4,TO.set 4 trivial,TW⟩
    | 5,_=>
     simp at ho
     subst ho
     obtain rfl:=TF.2.2.2.1 (hpre 3 (by kernel_rfl))
     obtain rfl:=TF.2.2.2.2.1 (hpre 4 (by kernel_rfl))
     go_simp
     refine(HDR.out w' (TW.t0 hL).kp (TW.t0 hL).v).mono ?_
     rintro _ w'' ⟨rfl,hT⟩
     exact⟨u0,u1,u2,_,_,_,u6,rfl,TF.set 5,TO.set 5 trivial,(TW.call hL hT)⟩
    | 6,_=>
     simp at ho
     subst ho
     obtain rfl:=TF.2.2.2.2.2.1 (hpre 5 (by kernel_rfl))
     go_simp
     exact⟨u0,u1,u2,u3,u4,_,_,rfl,TF.set 6,TO.set 6 trivial,TW⟩
    | i+7,h=>omega
   case fin=>
    rintro L a' w' hall ⟨u0,u1,u2,u3,u4,u5,u6,rfl,TF,TO,hWD⟩
    rw[hall 5 (by omega)] at hWD
    obtain rfl:=TF.2.2.2.2.2.2.1 (hall 6 (by omega))
    clear TF TO
    refine wpList_nil ?_
    have hF:=hWD.t1 rfl
    have HF:=Lib.hid (HW5.out.trans hF)
    clear hWD hF HDR hall R4 K4 HW5 hR
    go_wp2_with fail
    go_roundw
    case rel=>first | exact⟨j+1,by go_num,by omega,HF⟩ | (trace_state; sorry)
    case measure=>simp[intOf]; omega
  ·obtain rfl:j=G.length:=by omega
   have HF:=Lib.hid hR.out
   clear hR
   go_wp2_with fail
   go_ret
   exact⟨rfl,HF.out⟩
end St
namespace St
open Go.RowKit Dk Gm Eqb Rm Di Vl Qv Sp
open Vm (HasVol vM)
theorem blk_setCells{b:Nat}{t:TypeId}:∀(vs:List Value) (o:Nat) (w:World) (cur:Array Value),w.heap[b]?=some (.cells cur t (0,0))→o+vs.length≤cur.size→
  ∃cur',(w.setCells b o vs).heap[b]?=some (.cells cur' t (0,0))∧cur'.size=cur.size∧∀j,cur'[j]?=if o≤j∧j < o+vs.length then vs[j - o]? else cur[j]?
 | [],o,w,cur,h,_=>⟨cur,h,rfl,fun j=>by rw[if_neg (by rw[List.length_nil]; omega)]⟩
 | v :: r,o,w,cur,h,hl=>by
  rw[List.length_cons] at hl
  obtain⟨cur',h1,h2,h3⟩:=blk_setCells r (o+1) (w.setCell ⟨b,o,none⟩ v) (cur.setIfInBounds o v) (heap_setCell_same w b o cur t v h) (by simp; omega)
  refine⟨cur',by rw[World.setCells]; exact h1,by rw[h2]; simp,fun j=>?_⟩
  rw[h3 j,List.length_cons]
  by_cases e:j=o
  ·subst e
   rw[if_neg (by omega),if_pos (by omega),Nat.sub_self,Array.getElem?_setIfInBounds_self_of_lt (by omega)]
   rfl
  ·rw[Array.getElem?_setIfInBounds_ne (by omega)]
   by_cases e2:o+1≤j∧j < o+1+r.length
   ·rw[if_pos e2,if_pos (by omega),show j - o=(j - (o+1))+1 by omega,List.getElem?_cons_succ]
   ·rw[if_neg e2,if_neg (by omega)]
theorem grown_setCells:∀(w:World) (b o:Nat) (vs:List Value),w.grownBy (w.setCells b o vs) (some b)
 | w,b,o,[]=>⟨rfl,rfl,rfl,Nat.le_refl _,fun _ _ _=>rfl⟩
 | w,b,o,v :: r=>by
  have h1:w.grownBy (w.setCell ⟨b,o,none⟩ v) (some b):=⟨rfl,rfl,rfl,by simp[World.setCell],fun k _ hk=>Below.heap_setCell _ _ _ _ (fun e=>hk (by simp[e]))⟩
  exact Dk.oT h1 (grown_setCells (w.setCell ⟨b,o,none⟩ v) b (o+1) r)
variable {q:Qt}{X X':Dst}{f f':Nat→Int}{w w' w'' W:World}{V:Pl}{wb:Nat}{gv gv0:Value}{G G':List Pt.Pn}{p p2:Pt.Pn}{s c:Int}{st:List Value}
theorem wkC_len(V:Pl)(p:Pt.Pn)(s c:Int)(gv:Value):(wkC V (sV p s c) gv).length=38:=by simp[wkC,sV_length]
theorem wkC_at(V:Pl)(p:Pt.Pn)(s c:Int)(gv:Value)(j:Nat):(wkC V (sV p s c) gv)[j]?=if j=0 then some (.pointer (some ⟨V.b,V.o,none⟩)) else if j < 35 then (Pt.pV p)[j - 1]? else [Value.int .i64 s,.int .i64 c,gv][j - 35]?:=by
 cases j with
 | zero=>rfl
 | succ j=>
  rw[if_neg (by omega)]
  show(Pt.pV p ++ [Value.int .i64 s,.int .i64 c] ++ [gv])[j]?=_
  rw[List.append_assoc]
  split
  ·rw[List.getElem?_append_left (by rw[Pt.pL]; omega)]
   rfl
  ·rw[List.getElem?_append_right (by rw[Pt.pL]; omega),Pt.pL]
   show([Value.int .i64 s,.int .i64 c,gv]:List Value)[j - 34]?=_
   congr 1
theorem wk_root{t:TypeId}(h:w.heap[wb]?=some (.cells (wkC V (sV p s c) gv).toArray t (0,0)))(p2:Pt.Pn):(w.setCells wb 1 (Pt.pV p2)).heap[wb]?=some (.cells (wkC V (sV p2 s c) gv).toArray t (0,0)):=by
 obtain⟨cur,h1,h2,h3⟩:=blk_setCells (Pt.pV p2) 1 w _ h (by rw[Pt.pL,List.size_toArray,wkC_len]; omega)
 rw[h1]
 have e:cur=(wkC V (sV p2 s c) gv).toArray:=by
  refine Array.ext_getElem? fun j=>?_
  rw[h3 j,List.getElem?_toArray,List.getElem?_toArray,wkC_at,wkC_at,Pt.pL]
  by_cases h0:j=0
  ·rw[if_neg (by omega),if_pos h0,if_pos h0]
  ·rw[if_neg h0,if_neg h0]
   by_cases h1:j < 35
   ·rw[if_pos (by omega),if_pos h1]
   ·rw[if_neg (by omega),if_neg h1,if_neg h1]
 rw[e]
theorem Wt.root(h:Wt w V wb gv0 q X f (sV p s c) gv G w')(p2:Pt.Pn):Wt w V wb gv0 q X f (sV p2 s c) gv G (w'.setCells wb 1 (Pt.pV p2))∧∀k,Lk V wb gv w' k→(w'.setCells wb 1 (Pt.pV p2)).heap[k]?=w'.heap[k]?∧Lk V wb gv (w'.setCells wb 1 (Pt.pV p2)) k:=
 h.stem (grown_setCells w' wb 1 (Pt.pV p2)) (wk_root h.b p2)
theorem Wt.rngS(h:Wt w V wb gv0 q X f (sV p s c) gv G w'):w'.rangeAt wb 1 (sV p s c):=fun j v hv=>by
 have:=h.at hv
 rwa [Nat.add_comm] at this
theorem Wt.rngP(h:Wt w V wb gv0 q X f (sV p s c) gv G w'):w'.rangeAt wb 1 (Pt.pV p):=fun j v hv=>h.rngS j v (by
 unfold sV
 rw[List.getElem?_append_left (List.getElem?_eq_some_iff.1 hv).1]
 exact hv)
theorem Wt.thereP(h:Wt w V wb gv0 q X f (sV p s c) gv G w')(p2:Pt.Pn):w'.there wb 1 (Pt.pV p2).toArray.size:=fun j hj=>by
 have hj':j < 34:=by rwa [List.size_toArray,Pt.pL] at hj
 refine⟨?_,frozen_of_row _ _ _ _ _ h.b⟩
 rw[cell_of_row _ _ _ _ _ _ h.b]
 rw[List.getElem?_toArray,wkC_at,if_neg (by omega),if_pos (by omega)]
 rw[List.getElem?_eq_getElem (by rw[Pt.pL]; omega)]
 rfl
structure Ps(w W:World)(V:Pl)(wb:Nat)(gv:Value)(q:Qt)(X:Dst)(f:Nat→Int)(st:List Value)(G:List Pt.Pn)(w':World):Prop where
 t:Wt w V wb gv q X f st gv G w'
 k:∀b,Lk V wb gv W b→w'.heap[b]?=W.heap[b]?∧Lk V wb gv w' b
theorem Ps.start(h:Wt w V wb gv q X f st gv G W):Ps w W V wb gv q X f st G { W with drawn:=W.drawn+1 }:=
 ⟨h.below (drawn_below W),fun _ hl=>hl.below h.v.lt (drawn_below W)⟩
theorem Ps.below(h:Ps w W V wb gv q X f st G w')(hb:Below w'.heap.size w' w''):Ps w W V wb gv q X f st G w'':=
 ⟨h.t.below hb,fun b hl=>by
  obtain⟨a1,a2⟩:=h.k b hl
  obtain⟨b1,b2⟩:=a2.below h.t.v.lt hb
  exact⟨b1.trans a1,b2⟩⟩
structure Pd(w W:World)(V:Pl)(wb:Nat)(gv:Value)(q:Qt)(X:Dst)(f:Nat→Int)(X':Dst)(f':Nat→Int)(G G':List Pt.Pn)(p p2:Pt.Pn)(s0 c0:Int)(c s:Bool)(w':World):Prop where
 t0:c=false→Ps w W V wb gv q X f (sV p s0 c0) G w'
 t1:c=true→∃gv2,Wt w V wb gv q X' f' (sV (if s then p2 else p) s0 c0) gv2 G' w'
 or':s=true→c=true
variable {s0 c0:Int}{cc ss:Bool}
theorem Pd.start(h:Wt w V wb gv q X f (sV p s0 c0) gv G W):Pd w W V wb gv q X f X' f' G G' p p2 s0 c0 false false { W with drawn:=W.drawn+1 }:=
 ⟨fun _=>Ps.start h,(fun e=>by cases e),(fun e=>by cases e)⟩
theorem Pd.sn(h:Pd w W V wb gv q X f X' f' G G' p p2 s0 c0 cc ss w')(hc:cc=false):ss=false:=by
 cases e:ss with
 | false=>rfl
 | true=>exact absurd (h.or' e) (by rw[hc]; decide)
theorem Pd.below(h:Pd w W V wb gv q X f X' f' G G' p p2 s0 c0 cc ss w')(hc:cc=false)(hb:Below w'.heap.size w' w''):Pd w W V wb gv q X f X' f' G G' p p2 s0 c0 cc ss w'':=by
 have hs:=h.sn hc
 subst hc hs
 exact⟨fun _=>(h.t0 rfl).below hb,(fun e=>by cases e),(fun e=>by cases e)⟩
theorem Pd.call{gv2:Value}(h:Pd w W V wb gv q X f X' f' G G' p p2 s0 c0 cc ss w')(hc:cc=false)(ht:Wt w' V wb gv q X' f' (sV p s0 c0) gv2 G' w''):Pd w W V wb gv q X f X' f' G G' p p2 s0 c0 true ss w'':=by
 have hs:=h.sn hc
 subst hc hs
 exact⟨(fun e=>by cases e),fun _=>⟨gv2,(h.t0 rfl).t.trans ht⟩,(fun e=>by cases e)⟩
theorem Pd.store(h:Pd w W V wb gv q X f X' f' G G' p p2 s0 c0 cc ss w')(hc:cc=true)(hs:ss=false):Pd w W V wb gv q X f X' f' G G' p p2 s0 c0 cc true (w'.setCells wb 1 (Pt.pV p2)):=by
 subst hc hs
 obtain⟨gv2,h1⟩:=h.t1 rfl
 exact⟨(fun e=>by cases e),fun _=>⟨gv2,(Wt.root h1 p2).1⟩,fun _=>rfl⟩
theorem Pd.thereP(h:Pd w W V wb gv q X f X' f' G G' p p2 s0 c0 cc ss w')(hc:cc=true)(hs:ss=false):w'.there wb 1 (Pt.pV p2).toArray.size:=by
 subst hc hs
 obtain⟨gv2,h1⟩:=h.t1 rfl
 exact Wt.thereP h1 p2
end St
end Go.Proofs.YteaocagepfgfnaaGreatDoor
