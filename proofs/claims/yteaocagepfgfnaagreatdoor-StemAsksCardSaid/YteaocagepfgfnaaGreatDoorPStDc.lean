import Derived.Test.YteaocagepfgfnaaGreatDoorPStEb
set_option maxRecDepth 100000
set_option maxHeartbeats 8000000
namespace Go.Proofs.YteaocagepfgfnaaGreatDoor
namespace St
open Go.RowKit Dk Gm Eqb Rm Di Vl Qv
open Vm (vM)
variable {q:Qt}{X:Dst}{f:Nat→Int}{H:List Hd}
theorem NB_congr{R R':Nat→Pt.Pn}(h:∀i,i < 3→R i=R' i):∀j,j≤3→Pt.NB 3 R j=Pt.NB 3 R' j
 | 0,_=>rfl
 | j+1,hj=>by
  rw[Pt.NB,Pt.NB,NB_congr h j (by omega)]
  have:Pt.nP 3 R j=Pt.nP 3 R' j:=by
   unfold Pt.nP
   rw[if_pos (by omega),if_pos (by omega),h j (by omega)]
  rw[this]
theorem take_z{D:Nat→Int}(h:∀i,i < 128→D i=0)(a:Int)(ha:0≤a∧a≤100):Pt.sideT 128 a D=Pt.sideT 128 a zb:=by
 have e:Wd.takeN 128 a 4 D=Wd.takeN 128 a 4 zb:=Pt.takeN_congr fun i hi=>by rw[h _ (by omega)]; rfl
 unfold Pt.sideT
 rw[e]
theorem nb_nz{R:Nat→Pt.Pn}(h:Pt.ndOk 3 R):Wd.zeroB (Pt.NB 3 R 3) 128=false:=by
 cases e:Wd.zeroB (Pt.NB 3 R 3) 128 with
 | false=>rfl
 | true=>
  exfalso
  have hz:=Wd.zeroB_true.1 e
  have h0:=(Pt.node_ok h).1 0 (by omega)
  unfold Pt.tI Pt.tkP at h0
  rw[take_z hz _ (by decide),take_z hz _ (by decide)] at h0
  have e0:Pt.sideT 128 (40 * ((0:Nat):Int)) zb=0:=by decide
  have e1:Pt.sideT 128 (40 * ((0:Nat):Int)+4) zb=0:=by decide
  rw[e0,e1] at h0
  simp[Pt.rightB,Pt.isHole,Pt.eqP,Pt.hole] at h0
theorem Py.unhole{D:Nat→Int}(h:Py q X f (H ++ [(Pt.hole,D)])):Py q X f H:=by
 refine⟨h.u,h.c,?_,fun x hx=>h.el x (List.mem_append_left _ hx)⟩
 have:=h.nv
 have e:Vp.sx (Vp.ps (H ++ [(Pt.hole,D)]))=Vp.sx (Vp.ps H):=by rw[Vp.ps_append,Vp.sx_append]; show _ ++ []=_; rw[List.append_nil]
 rw[e] at this
 exact this
def nh(g:List Pt.Pn):List Pt.Pn:=g.filter fun p=>!Pt.isHole p
theorem nh_app(g g':List Pt.Pn):nh (g ++ g')=nh g ++ nh g':=List.filter_append _ _
structure Ry(c:Int)(d:Nat)(T:Tr)(H N:List Hd)(T':Tr)(g:List Pt.Pn):Prop where
 ok:T'.ok d
 on:T'.on (H ++ N)
 cp:T'.cp c
 pm:∃gh:List Hd,(T.held ++ N).Perm (T'.held ++ gh)∧gh.map Prod.fst=nh g
 ne:(T'=T∧N=[]∧g=[])∨Pt.eqP T'.root T.root=false
structure Stp(q:Qt)(c:Int)(d cost:Nat)(T:Tr)(X:Dst)(f:Nat→Int)(H:List Hd)(X':Dst)(f':Nat→Int)(N:List Hd)(T':Tr)(g:List Pt.Pn)(E:Int)(rp:Pt.Pn):Prop where
 m:X'.m≤X.m+2 * cost
 py:Py q X' f' (H ++ N)
 gl:g.length≤T.held.length+cost
 ok:E=0→rp=T'.root∧Ry c d T H N T' g∧∀n,Rm2 q f (n+cost)→Rm2 q f' n
 no:E≠0→E=9∧¬ Rm2 q f cost
theorem chs_len{d:Nat}{T:Tr}(h:T.ok (d+1)):(T.ch 0).held.length+(T.ch 1).held.length+(T.ch 2).held.length≤T.held.length:=by
 cases T with
 | no=>simp[Tr.ch,Tr.held]
 | leaf p b=>exact h.elim
 | node p a b c=>simp[Tr.ch,Tr.held]; omega
theorem Stp.same{c:Int}{d cost:Nat}{T:Tr}(hP:Py q X f H)(ho:T.ok d)(hon:T.on H)(hc:T.cp c):Stp q c d cost T X f H X f [] T [] 0 T.root:=by
 refine⟨by omega,by rw[List.append_nil]; exact hP,by simp,fun _=>⟨rfl,⟨ho,by rw[List.append_nil]; exact hon,hc,⟨[],by simp,rfl⟩,.inl ⟨rfl,rfl,rfl⟩⟩,fun n h=>h.le (by omega)⟩,fun h=>absurd rfl h⟩
end St
namespace St
open Go.RowKit Go.Shelf Dk Gm Eqb Rm Di Vl Qv
open Vm (vM)
def s4{α:Type}(a3 a2 a1 a0:α):Nat→α
 | 0=>a0
 | 1=>a1
 | 2=>a2
 | _=>a3
def s3{α:Type}(a0 a1 a2:α):Nat→α
 | 0=>a0
 | 1=>a1
 | _=>a2
def DoPart(F:FuncId)(cap:Array Value)(w:World)(V:Pl)(wb:Nat)(gv:Value)(q:Qt)(st:List Value)(T:Tr)(G:List Pt.Pn)(bd:Nat)(lc:Nat→Nat)(P:Nat→Dst→(Nat→Int)→Dst→(Nat→Int)→List Pt.Pn→Pt.Pn→Int→Prop):Prop:=
 ∀(k:Nat) (X:Dst) (f:Nat→Int) (X':Dst) (f':Nat→Int) (g:List Pt.Pn) (rp:Pt.Pn) (E:Int),k < 3→P k X f X' f' g rp E→∀(G':List Pt.Pn) (w':World) (gv':Value),G'.length+lc k≤G.length+bd→(∀b,Lk V wb gv w b→w'.heap[b]?=w.heap[b]?∧Lk V wb gv' w' b)→Wt w' V wb gv' q X f st gv' G' w'→
  Calls Tryz.prog F (#[.int .i64 (k:Int),.agg (Pt.pV (T.rts k)).toArray] ++ cap) w' fun e w''=>∃gv'',e=.returned (.tuple #[.agg (Pt.pV rp).toArray,.int .i64 E])∧Wt w' V wb gv' q X' f' st gv'' (G' ++ g) w''
variable {q:Qt}{X:Dst}{f:Nat→Int}{H:List Hd}
theorem each_call{d:Nat}{T:Tr}(hP:Py q X f H)(hm:X.m≤90000)(ho:T.ok (d+1))(hon:T.on H){P:Nat→Dst→(Nat→Int)→Dst→(Nat→Int)→List Pt.Pn→Pt.Pn→Int→Prop}
  {X2 X1 X0:Dst} {f2 f1 f0:Nat→Int} {g2 g1 g0:List Pt.Pn} {r2 r1 r0:Pt.Pn} {E2 E1 E0:Int} (hp2:P 2 X f X2 f2 g2 r2 E2) (hp1:E2=0→P 1 X2 f2 X1 f1 g1 r1 E1) (hp0:E2=0→E1=0→P 0 X1 f1 X0 f0 g0 r0 E0)
  {bd:Nat} {lc:Nat→Nat} (l2:g2.length≤lc 2) (l1:E2=0→g1.length≤lc 1) (l0:g2.length+g1.length+g0.length≤bd) (lb:lc 0+lc 1+lc 2≤bd)
  {rp:Pt.Pn} {rE:Int} {rX:Dst} {rf:Nat→Int} {rg:List Pt.Pn}
  (HE2:E2≠0→rp=Pt.pz∧rE=E2∧rX=X2∧rf=f2∧rg=g2)
  (HE1:E2=0→E1≠0→rp=Pt.pz∧rE=E1∧rX=X1∧rf=f1∧rg=g2 ++ g1)
  (HE0:E2=0→E1=0→E0≠0→rp=Pt.pz∧rE=E0∧rX=X0∧rf=f0∧rg=g2 ++ g1 ++ g0)
  (HR:E2=0→E1=0→E0=0→if Pt.eq3 (s3 r0 r1 r2) T.rts=true then rp=T.root∧rE=0∧rX=X0∧rf=f0∧rg=g2 ++ g1 ++ g0
   else if Pt.eq3 (s3 r0 r1 r2) (fun _=>Pt.hole)=true then rp=Pt.hole∧rE=0∧rX=X0∧rf=f0∧rg=g2 ++ g1 ++ g0 ++ [T.root]
   else Pt.ndE 3 (s3 r0 r1 r2)=0∧∃p1,rp=(if rE=0 then p1 else Pt.pz)∧rg=(if rE=0 then g2 ++ g1 ++ g0 ++ [T.root] else g2 ++ g1 ++ g0)∧∀(w:World) (V:Pl),Rm.Kp w→HV w V q X0 f0→Calls Tryz.prog 84 #[.pointer (some ⟨V.b,V.o,none⟩),.agg (bl (Pt.ndV 3 (s3 r0 r1 r2))).toArray,.int .i64 2] w fun e w'=>e=.returned (.tuple #[.agg (Pt.pV p1).toArray,.int .i64 rE])∧TV w V q rX rf w')
  {w:World} {V:Pl} {wb:Nat} {gv:Value} {st:List Value} {G:List Pt.Pn} {F:FuncId} {cap:Array Value} (hw:Wt w V wb gv q X f st gv G w) (hst:st.length=36) (hF:Enters Tryz.prog F) (hG:G.length+bd≤900000) (hdo:DoPart F cap w V wb gv q st T G bd lc P) :
  Calls Tryz.prog 80 #[.pointer (some ⟨wb,0,none⟩),.agg (Pt.pV T.root).toArray,.func (.func F) #[] cap] w fun e w'=>∃gv',e=.returned (.tuple #[.agg (Pt.pV rp).toArray,.int .i64 rE])∧Wt w V wb gv q rX rf st gv' (G ++ rg) w':=by
 have n3:∀k,k < 3→k=0∨k=1∨k=2:=fun k hk=>by omega
 refine each_any hw hst T.root T.rts F cap hF (fun w' hk hv=>parts_t hk hv hP hm ho hon) (s4 X X2 X1 X0) (s4 f f2 f1 f0) (fun k=>G ++ s4 [] g2 (g2 ++ g1) (g2 ++ g1 ++ g0) k) (s3 r0 r1 r2) (s3 E0 E1 E2) ⟨rfl,rfl,List.append_nil G⟩ ?_ rp rE rX rf (G ++ rg) ?_ (by simp[s4]; omega) ?_
 ·intro k hk he w' gv' hkeep hW
  rcases n3 k hk with rfl | rfl | rfl
  ·have e2:E2=0:=he 2 (by omega) (by omega)
   have e1:E1=0:=he 1 (by omega) (by omega)
   refine(hdo 0 X1 f1 X0 f0 g0 r0 E0 (by omega) (hp0 e2 e1) (G ++ (g2 ++ g1)) w' gv' (by have:=l1 e2; simp; omega) hkeep hW).mono ?_
   rintro e w'' ⟨gv'',h1,h2⟩
   exact⟨gv'',h1,by rw[List.append_assoc] at h2; exact h2⟩
  ·have e2:E2=0:=he 2 (by omega) (by omega)
   refine(hdo 1 X2 f2 X1 f1 g1 r1 E1 (by omega) (hp1 e2) (G ++ g2) w' gv' (by simp; omega) hkeep hW).mono ?_
   rintro e w'' ⟨gv'',h1,h2⟩
   exact⟨gv'',h1,by rw[List.append_assoc] at h2; exact h2⟩
  ·have hW':Wt w' V wb gv' q X f st gv' G w':=by
    have:=hW
    rw[show G ++ s4 [] g2 (g2 ++ g1) (g2 ++ g1 ++ g0) (2+1)=G from List.append_nil G] at this
    exact this
   exact(hdo 2 X f X2 f2 g2 r2 E2 (by omega) hp2 G w' gv' (by omega) hkeep hW')
 ·intro k hk he hne
  rcases n3 k hk with rfl | rfl | rfl
  ·obtain⟨a1,a2,a3,a4,a5⟩:=HE0 (he 2 (by omega) (by omega)) (he 1 (by omega) (by omega)) hne
   exact⟨a1,a2,a3,a4,by rw[a5]; rfl⟩
  ·obtain⟨a1,a2,a3,a4,a5⟩:=HE1 (he 2 (by omega) (by omega)) hne
   exact⟨a1,a2,a3,a4,by rw[a5]; rfl⟩
  ·obtain⟨a1,a2,a3,a4,a5⟩:=HE2 hne
   exact⟨a1,a2,a3,a4,by rw[a5]; rfl⟩
 ·intro he
  have h:=HR (he 2 (by omega)) (he 1 (by omega)) (he 0 (by omega))
  split
  ·rename_i h1
   rw[if_pos h1] at h
   obtain⟨a1,a2,a3,a4,a5⟩:=h
   exact⟨a1,a2,a3,a4,by rw[a5]; rfl⟩
  ·rename_i h1
   rw[if_neg h1] at h
   split
   ·rename_i h2
    rw[if_pos h2] at h
    obtain⟨a1,a2,a3,a4,a5⟩:=h
    exact⟨a1,a2,a3,a4,by rw[a5,←List.append_assoc]; rfl⟩
   ·rename_i h2
    rw[if_neg h2] at h
    obtain⟨a1,p1,a2,a3,a4⟩:=h
    refine⟨a1,p1,a2,?_,fun w' hk hv=>a4 w' V hk hv⟩
    rw[a3]
    split
    ·rw[←List.append_assoc]
     rfl
    ·rfl
end St
namespace St
open Go.RowKit Go.Shelf Dk Gm Eqb Rm Di Vl Qv
open Vm (vM)
variable {q:Qt}{X:Dst}{f:Nat→Int}{H:List Hd}
theorem cp_of{c:Int}{d:Nat}{T:Tr}(ho:T.ok (d+1))(h:∀k,k < 3→(T.ch k).cp c):T.cp c:=by
 cases T with
 | no=>exact trivial
 | leaf p b=>exact ho.elim
 | node p a b e=>exact⟨h 0 (by omega),h 1 (by omega),h 2 (by omega)⟩
theorem held_chs{d:Nat}{T:Tr}(h:T.ok (d+1)):∃r:List Hd,T.held=r ++ ((T.ch 0).held ++ (T.ch 1).held ++ (T.ch 2).held)∧(T=.no→r=[])∧(T≠.no→∃b,r=[(T.root,b)]):=by
 cases T with
 | no=>exact⟨[],rfl,fun _=>rfl,fun h=>absurd rfl h⟩
 | leaf p b=>exact h.elim
 | node p a b c=>exact⟨[(p,nb (p3 a.root b.root c.root))],rfl,(fun e=>by cases e),fun _=>⟨_,rfl⟩⟩
theorem perm_parts{r A B C N0 N1 N2 A' B' C' g0 g1 g2:List Hd}(p0:(A ++ N0).Perm (A' ++ g0))(p1:(B ++ N1).Perm (B' ++ g1))(p2:(C ++ N2).Perm (C' ++ g2)) :
  (r ++ (A ++ B ++ C) ++ (N2 ++ N1 ++ N0)).Perm ((A' ++ B' ++ C') ++ (g2 ++ g1 ++ g0 ++ r)):=by
 classical
 rw[List.perm_iff_count] at p0 p1 p2 ⊢
 intro x
 have h0:=p0 x
 have h1:=p1 x
 have h2:=p2 x
 simp only[List.count_append] at h0 h1 h2 ⊢
 omega
theorem nh_hole:nh [Pt.hole]=[]:=by
 unfold nh
 rw[List.filter_cons,isHole_hole]
 rfl
theorem nh_root{p:Pt.Pn}(h:p.A≠-1):nh [p]=[p]:=by
 unfold nh
 rw[List.filter_cons,hole_A h]
 rfl
theorem bnd3{a b c n a' b' c':Nat}(h:a+b+c≤n):a+a'+(b+b')+(c+c')≤n+(a'+b'+c'+1):=by omega
theorem each_t{c:Int}{d:Nat}{T:Tr}{cost:Nat→Nat}(hP:Py q X f H)(ho:T.ok (d+1))(hon:T.on H)(L:Nat→Tr→Prop)(P:Nat→Dst→(Nat→Int)→Dst→(Nat→Int)→List Pt.Pn→Pt.Pn→Int→Prop)
  (hm:X.m+2 * (cost 0+cost 1+cost 2+1)≤90000)
  (hstep:∀k,k < 3→∀X f H,Py q X f H→(T.ch k).on H→X.m+2 * cost k≤90000→∃X' f' N T' g E rp,Stp q c d (cost k) (T.ch k) X f H X' f' N T' g E rp∧(E=0→L k T')∧P k X f X' f' g rp E) :
  ∃X' f' N T' g E rp,Stp q c (d+1) (cost 0+cost 1+cost 2+1) T X f H X' f' N T' g E rp∧(E=0→∀k,k < 3→L k (T'.ch k))∧
   ∀(w:World) (V:Pl) (wb:Nat) (gv:Value) (st:List Value) (G:List Pt.Pn) (F:FuncId) (cap:Array Value),Wt w V wb gv q X f st gv G w→st.length=36→Enters Tryz.prog F→G.length+(T.held.length+(cost 0+cost 1+cost 2+1))≤900000→
    DoPart F cap w V wb gv q st T G (T.held.length+(cost 0+cost 1+cost 2+1)) (fun k=>(T.ch k).held.length+cost k) P→
    Calls Tryz.prog 80 #[.pointer (some ⟨wb,0,none⟩),.agg (Pt.pV T.root).toArray,.func (.func F) #[] cap] w fun e w'=>∃gv',e=.returned (.tuple #[.agg (Pt.pV rp).toArray,.int .i64 E])∧Wt w V wb gv q X' f' st gv' (G ++ g) w':=by
 have hlen:=chs_len ho
 have hmX:X.m≤90000:=by omega
 have LB:(T.ch 0).held.length+cost 0+((T.ch 1).held.length+cost 1)+((T.ch 2).held.length+cost 2)≤T.held.length+(cost 0+cost 1+cost 2+1):=bnd3 hlen
 obtain⟨X2,f2,N2,T2,g2,E2,r2,s2,L2,p2⟩:=hstep 2 (by omega) X f H hP (on_ch hon 2) (by omega)
 have G2:=s2.gl
 have M2:=s2.m
 by_cases e2:E2=0
 case neg=>
  refine⟨X2,f2,N2,T,g2,E2,Pt.pz,⟨by omega,s2.py,by omega,fun h=>absurd h e2,fun _=>⟨(s2.no e2).1,fun h=>(s2.no e2).2 (h.le (by omega))⟩⟩,fun h=>absurd h e2,?_⟩
  intro w V wb gv st G F cap hw hst hF hG hdo
  exact each_call hP hmX ho hon (X1:=X2) (X0:=X2) (f1:=f2) (f0:=f2) (g1:=[]) (g0:=[]) (r1:=r2) (r0:=r2) (E1:=0) (E0:=0) p2 (fun h=>absurd h e2) (fun h=>absurd h e2) (by omega) (fun h=>absurd h e2) (by simp; omega) LB (fun _=>⟨rfl,rfl,rfl,rfl,rfl⟩) (fun h=>absurd h e2) (fun h=>absurd h e2) (fun h=>absurd h e2) hw hst hF hG hdo
 obtain⟨q2,y2,rm2⟩:=s2.ok e2
 obtain⟨X1,f1,N1,T1,g1,E1,r1,s1,L1,p1⟩:=hstep 1 (by omega) X2 f2 (H ++ N2) s2.py (on_ch hon 1).more (by omega)
 have G1:=s1.gl
 have M1:=s1.m
 by_cases e1:E1=0
 case neg=>
  refine⟨X1,f1,N2 ++ N1,T,g2 ++ g1,E1,Pt.pz,⟨by omega,by rw[←List.append_assoc]; exact s1.py,by simp; omega,fun h=>absurd h e1,fun _=>⟨(s1.no e1).1,fun h=>(s1.no e1).2 (rm2 _ (h.le (by omega)))⟩⟩,fun h=>absurd h e1,?_⟩
  intro w V wb gv st G F cap hw hst hF hG hdo
  exact each_call hP hmX ho hon (X0:=X1) (f0:=f1) (g0:=[]) (r0:=r1) (E0:=0) p2 (fun _=>p1) (fun _ h=>absurd h e1) (by omega) (fun _=>by omega) (by simp; omega) LB (fun h=>absurd e2 h) (fun _ _=>⟨rfl,rfl,rfl,rfl,rfl⟩) (fun _ h=>absurd h e1) (fun _ h=>absurd h e1) hw hst hF hG hdo
 obtain⟨q1,y1,rm1⟩:=s1.ok e1
 obtain⟨X0,f0,N0,T0,g0,E0,r0,s0,L0,p0⟩:=hstep 0 (by omega) X1 f1 (H ++ N2 ++ N1) s1.py (on_ch hon 0).more.more (by omega)
 have G0:=s0.gl
 have M0:=s0.m
 have hN:H ++ (N2 ++ N1 ++ N0)=H ++ N2 ++ N1 ++ N0:=by simp
 by_cases e0:E0=0
 case neg=>
  refine⟨X0,f0,N2 ++ N1 ++ N0,T,g2 ++ g1 ++ g0,E0,Pt.pz,⟨by omega,by rw[hN]; exact s0.py,by simp; omega,fun h=>absurd h e0,fun _=>⟨(s0.no e0).1,fun h=>(s0.no e0).2 (rm1 _ (rm2 _ (h.le (by omega))))⟩⟩,fun h=>absurd h e0,?_⟩
  intro w V wb gv st G F cap hw hst hF hG hdo
  exact each_call hP hmX ho hon p2 (fun _=>p1) (fun _ _=>p0) (by omega) (fun _=>by omega) (by omega) LB (fun h=>absurd e2 h) (fun _ h=>absurd e1 h) (fun _ _ _=>⟨rfl,rfl,rfl,rfl,rfl⟩) (fun _ _ h=>absurd h e0) hw hst hF hG hdo
 obtain⟨q0,y0,rm0⟩:=s0.ok e0
 subst e2 e1 e0 q2 q1 q0
 have hP0:=s0.py
 have o2:T2.on (H ++ N2 ++ N1 ++ N0):=y2.on.more.more
 have o1:T1.on (H ++ N2 ++ N1 ++ N0):=y1.on.more
 have o0:=y0.on
 have hrt:∀n,Rm2 q f (n+(cost 0+cost 1+cost 2))→Rm2 q f0 n:=fun n h=>rm0 n (rm1 _ (rm2 _ (h.le (by omega))))
 have hlc:∀k,k < 3→L k (s3 T0 T1 T2 k):=fun k hk=>by
  rcases (show k=0∨k=1∨k=2 by omega) with rfl | rfl | rfl
  ·exact L0 rfl
  ·exact L1 rfl
  ·exact L2 rfl
 cases hs:Pt.eq3 (s3 T0.root T1.root T2.root) T.rts with
 | true=>
  have he:=Pt.eq3_iff.1 hs
  have k0:T0=T.ch 0∧N0=[]∧g0=[]:=y0.ne.elim id fun h=>by
   rw[show Pt.eqP T0.root (T.ch 0).root=true from he 0 (by omega)] at h
   cases h
  have k1:T1=T.ch 1∧N1=[]∧g1=[]:=y1.ne.elim id fun h=>by
   rw[show Pt.eqP T1.root (T.ch 1).root=true from he 1 (by omega)] at h
   cases h
  have k2:T2=T.ch 2∧N2=[]∧g2=[]:=y2.ne.elim id fun h=>by
   rw[show Pt.eqP T2.root (T.ch 2).root=true from he 2 (by omega)] at h
   cases h
  refine⟨X0,f0,[],T,[],0,T.root,⟨by omega,?_,by simp,fun _=>⟨rfl,⟨ho,?_,cp_of ho fun k hk=>?_,⟨[],by simp,rfl⟩,.inl ⟨rfl,rfl,rfl⟩⟩,fun n h=>hrt n (h.le (by omega))⟩,fun h=>absurd rfl h⟩,fun _ k hk=>?_,?_⟩
  ·rw[k2.2.1,k1.2.1,k0.2.1,List.append_nil,List.append_nil] at hP0
   exact hP0
  ·rw[List.append_nil]; exact hon
  ·rcases (show k=0∨k=1∨k=2 by omega) with rfl | rfl | rfl
   ·rw[←k0.1]; exact y0.cp
   ·rw[←k1.1]; exact y1.cp
   ·rw[←k2.1]; exact y2.cp
  ·have:=hlc k hk
   rcases (show k=0∨k=1∨k=2 by omega) with rfl | rfl | rfl
   ·rw[←k0.1]; exact this
   ·rw[←k1.1]; exact this
   ·rw[←k2.1]; exact this
  ·intro w V wb gv st G F cap hw hst hF hG hdo
   refine each_call hP hmX ho hon p2 (fun _=>p1) (fun _ _=>p0) (by omega) (fun _=>by omega) (by omega) LB (fun h=>absurd rfl h) (fun _ h=>absurd rfl h) (fun _ _ h=>absurd rfl h) (fun _ _ _=>?_) hw hst hF hG hdo
   rw[if_pos hs,k2.2.2,k1.2.2,k0.2.2]
   exact⟨rfl,rfl,rfl,rfl,rfl⟩
 | false=>
  have hsn:¬ Pt.eq3 (s3 T0.root T1.root T2.root) T.rts=true:=by rw[hs]; decide
  obtain⟨r,hr,hr0,hr1⟩:=held_chs ho
  obtain⟨h0,pm0,m0⟩:=y0.pm
  obtain⟨h1,pm1,m1⟩:=y1.pm
  obtain⟨h2,pm2,m2⟩:=y2.pm
  have hpm:=perm_parts (r:=r) pm0 pm1 pm2
  rw[←hr] at hpm
  have hroot:r.map Prod.fst=nh [T.root]:=by
   by_cases hn:T=.no
   ·rw[hr0 hn,hn]
    exact nh_hole.symm
   ·obtain⟨b,e⟩:=hr1 hn
    rw[e,nh_root (root_A hP ho hon hn).1]
    rfl
  have hmap:(h2 ++ h1 ++ h0 ++ r).map Prod.fst=nh (g2 ++ g1 ++ g0 ++ [T.root]):=by
   rw[nh_app,nh_app,nh_app,←m2,←m1,←m0,←hroot]
   simp
  cases hh:Pt.eq3 (s3 T0.root T1.root T2.root) (fun _=>Pt.hole) with
  | true=>
   have he:=Pt.eq3_iff.1 hh
   have n0:T0=.no:=(root_hole hP0 y0.ok o0).1 (he 0 (by omega))
   have n1:T1=.no:=(root_hole hP0 y1.ok o1).1 (he 1 (by omega))
   have n2:T2=.no:=(root_hole hP0 y2.ok o2).1 (he 2 (by omega))
   have hn:T≠.no:=fun e=>by
    rw[e,rts_no,hh] at hs
    cases hs
   have hA:=(root_A hP ho hon hn).1
   subst n0 n1 n2
   refine⟨X0,f0,N2 ++ N1 ++ N0,.no,g2 ++ g1 ++ g0 ++ [T.root],0,Pt.hole,⟨by omega,by rw[hN]; exact hP0,by simp; omega,fun _=>⟨rfl,⟨trivial,fun x hx=>by simp[Tr.held] at hx,trivial,⟨_,by simpa[Tr.held] using hpm,hmap⟩,.inr ?_⟩,fun n h=>hrt n (h.le (by omega))⟩,fun h=>absurd rfl h⟩,fun _ k hk=>?_,?_⟩
   ·show Pt.eqP Pt.hole T.root=false
    unfold Pt.eqP
    rw[show(Pt.hole.A == T.root.A)=false from beq_eq_false_iff_ne.2 (Ne.symm hA)]
    rfl
   ·have:=hlc k hk
    rcases (show k=0∨k=1∨k=2 by omega) with rfl | rfl | rfl <;> exact this
   ·intro w V wb gv st G F cap hw hst hF hG hdo
    refine each_call hP hmX ho hon p2 (fun _=>p1) (fun _ _=>p0) (by omega) (fun _=>by omega) (by omega) LB (fun h=>absurd rfl h) (fun _ h=>absurd rfl h) (fun _ _ h=>absurd rfl h) (fun _ _ _=>?_) hw hst hF hG hdo
    rw[if_neg hsn,if_pos hh]
    exact⟨rfl,rfl,rfl,rfl,rfl⟩
  | false=>
   have hhn:¬ Pt.eq3 (s3 T0.root T1.root T2.root) (fun _=>Pt.hole)=true:=by rw[hh]; decide
   have hmine:∀i,i < 3→Pt.rightB (s3 T0.root T1.root T2.root i)=true∧∀j,j < 32→0≤(s3 T0.root T1.root T2.root i).S j∧(s3 T0.root T1.root T2.root i).S j < 256:=fun i hi=>by
    rcases (show i=0∨i=1∨i=2 by omega) with rfl | rfl | rfl
    ·exact(root_mine hP0 y0.ok o0).2.2.2
    ·exact(root_mine hP0 y1.ok o1).2.2.2
    ·exact(root_mine hP0 y2.ok o2).2.2.2
   have hnd:Pt.ndOk 3 (s3 T0.root T1.root T2.root):=⟨Nat.le_refl _,fun i hi=>by unfold Pt.nP; rw[if_pos hi]; exact(hmine i hi).1⟩
   have hby:=Pt.NB_bytes (n:=3) (P:=s3 T0.root T1.root T2.root) (fun i hi=>(hmine i hi).2) 3
   obtain⟨hv,hve⟩:=Pt.nd_yes hnd
   obtain⟨p1',E1',X',f',hm',hcall,hor⟩:=q_add hP0 (by omega) (c:=2) (.inr rfl) (D:=Pt.NB 3 (s3 T0.root T1.root T2.root) 3) hby
   have hHR:∀{rp:Pt.Pn} {rg:List Pt.Pn},rp=(if E1'=0 then p1' else Pt.pz)→rg=(if E1'=0 then g2 ++ g1 ++ g0 ++ [T.root] else g2 ++ g1 ++ g0)→∀(w:World) (V:Pl) (wb:Nat) (gv:Value) (st:List Value) (G:List Pt.Pn) (F:FuncId) (cap:Array Value),Wt w V wb gv q X f st gv G w→st.length=36→Enters Tryz.prog F→G.length+(T.held.length+(cost 0+cost 1+cost 2+1))≤900000→
    DoPart F cap w V wb gv q st T G (T.held.length+(cost 0+cost 1+cost 2+1)) (fun k=>(T.ch k).held.length+cost k) P→
    Calls Tryz.prog 80 #[.pointer (some ⟨wb,0,none⟩),.agg (Pt.pV T.root).toArray,.func (.func F) #[] cap] w fun e w'=>∃gv',e=.returned (.tuple #[.agg (Pt.pV rp).toArray,.int .i64 E1'])∧Wt w V wb gv q X' f' st gv' (G ++ rg) w':=by
    intro rp rg hrp hrg w V wb gv st G F cap hw hst hF hG hdo
    refine each_call hP hmX ho hon p2 (fun _=>p1) (fun _ _=>p0) (by omega) (fun _=>by omega) (by omega) LB (fun h=>absurd rfl h) (fun _ h=>absurd rfl h) (fun _ _ h=>absurd rfl h) (fun _ _ _=>?_) hw hst hF hG hdo
    rw[if_neg hsn,if_neg hhn,hv]
    exact⟨hve,p1',hrp,hrg,fun w' V' hk hv'=>hcall w' V' hk hv'⟩
   rcases hor with ⟨hE,hPy,hz | ⟨hz,hA,hB⟩,hrm⟩ | ⟨hE,hz,hX,hf,hno⟩
   ·rw[nb_nz hnd] at hz
    exact absurd hz.1 (by decide)
   ·subst hE
    have eD:Pt.NB 3 (s3 T0.root T1.root T2.root) 3=nb (p3 T0.root T1.root T2.root):=NB_congr (fun i hi=>by
     rcases (show i=0∨i=1∨i=2 by omega) with rfl | rfl | rfl <;> rfl) 3 (Nat.le_refl _)
    rw[eD] at hPy
    have hN':H ++ (N2 ++ N1 ++ N0 ++ [(p1',nb (p3 T0.root T1.root T2.root))])=H ++ N2 ++ N1 ++ N0 ++ [(p1',nb (p3 T0.root T1.root T2.root))]:=by simp
    refine⟨X',f',N2 ++ N1 ++ N0 ++ [(p1',nb (p3 T0.root T1.root T2.root))],.node p1' T0 T1 T2,g2 ++ g1 ++ g0 ++ [T.root],0,p1',⟨by omega,by rw[hN']; exact hPy,by simp; omega,fun _=>⟨rfl,⟨⟨y0.ok,y1.ok,y2.ok,?_,?_⟩,?_,⟨y0.cp,y1.cp,y2.cp⟩,⟨h2 ++ h1 ++ h0 ++ r,?_,hmap⟩,.inr ?_⟩,fun n h=>hrm n (hrt (n+1) (h.le (by omega)))⟩,fun h=>absurd rfl h⟩,fun _ k hk=>?_,hHR rfl rfl⟩
    ·rintro⟨a,b,e⟩
     subst a b e
     exact hhn (Pt.eq3_iff.2 fun i hi=>by
      rcases (show i=0∨i=1∨i=2 by omega) with rfl | rfl | rfl <;> exact Pt.eqP_same _)
    ·intro e
     have:=hB.1 e
     omega
    ·rw[hN']
     intro x hx
     simp only[Tr.held,List.mem_cons,List.mem_append] at hx
     rcases hx with rfl | (hx | hx) | hx
     ·exact List.mem_append_right _ (List.mem_singleton.2 rfl)
     ·exact List.mem_append_left _ (o0 x hx)
     ·exact List.mem_append_left _ (o1 x hx)
     ·exact List.mem_append_left _ (o2 x hx)
    ·have e1:(T.held ++ (N2 ++ N1 ++ N0 ++ [(p1',nb (p3 T0.root T1.root T2.root))])).Perm ((p1',nb (p3 T0.root T1.root T2.root)) :: (T.held ++ (N2 ++ N1 ++ N0))):=by
      rw[←List.append_assoc]
      exact List.perm_append_singleton _ _
     exact e1.trans (hpm.cons _)
    ·show Pt.eqP p1' T.root=false
     have hne:p1'.A≠T.root.A:=by
      by_cases hn:T=.no
      ·rw[hn]
       exact hA
      ·obtain⟨_,b,_,hb,_⟩:=root_A hP ho hon hn
       have:=hPy.fresh hA (T.root,b) (List.mem_append_left _ (List.mem_append_left _ (List.mem_append_left _ hb)))
       exact Ne.symm this
     unfold Pt.eqP
     rw[show(p1'.A == T.root.A)=false from beq_eq_false_iff_ne.2 hne]
     rfl
    ·have:=hlc k hk
     rcases (show k=0∨k=1∨k=2 by omega) with rfl | rfl | rfl <;> exact this
   ·subst hX hf
    have hE0:E1'≠0:=by omega
    exact⟨X',f',N2 ++ N1 ++ N0,T,g2 ++ g1 ++ g0,E1',Pt.pz,⟨by omega,by rw[hN]; exact hP0,by simp; omega,fun h=>absurd h hE0,fun _=>⟨hE,fun h=>hno (hrt 1 (h.le (by omega)))⟩⟩,fun h=>absurd h hE0,hHR (by rw[if_neg hE0]) (by rw[if_neg hE0])⟩
end St
end Go.Proofs.YteaocagepfgfnaaGreatDoor
