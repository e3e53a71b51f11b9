import Derived.Test.YteaocagepfgfnaaGreatDoorPStX
import Derived.RangeFuncNested
import Derived.RangeFuncBox
import Derived.RangeFuncLeaves
set_option maxRecDepth 100000
set_option maxHeartbeats 8000000
namespace Go.Proofs.YteaocagepfgfnaaGreatDoor
namespace St
open Go.RowKit Dk Gm Eqb Rm Di Vl Qv Sp
open Vm (HasVol vM)
structure Pb(w W:World)(V:Pl)(wb:Nat)(gv:Value)(q:Qt)(X:Dst)(f:Nat→Int)(X':Dst)(f':Nat→Int)(st:List Value)(G:List Pt.Pn)(T:TypeId)(old new:List Value)(T2:TypeId)(old2 new2:List Value)(c a s a2 s2:Bool)(u u2:Value)(w':World):Prop where
 t0:c=false→Wt w V wb gv q X f st gv G w'
 t1:c=true→Wt w V wb gv q X' f' st gv G w'
 k:∀b,Lk V wb gv W b→w'.heap[b]?=W.heap[b]?∧Lk V wb gv w' b
 al:a=true→∃bk,u=.pointer (some ⟨bk,0,none⟩)∧Lk V wb gv w' bk∧W.heap.size≤bk∧w'.heap[bk]?=some (.cells (if s then new else old).toArray T (0,0))
 al2:a2=true→∃bk,u2=.pointer (some ⟨bk,0,none⟩)∧Lk V wb gv w' bk∧W.heap.size≤bk∧w'.heap[bk]?=some (.cells (if s2 then new2 else old2).toArray T2 (0,0))
 ne:a=true→a2=true→u≠u2
 os:s=true→c=true∧a=true
 os2:s2=true→c=true∧a2=true
 sz:W.heap.size≤w'.heap.size
section
variable {w W w' w'':World}{V:Pl}{wb:Nat}{gv:Value}{q:Qt}{X:Dst}{f:Nat→Int}{X':Dst}{f':Nat→Int}{st:List Value}{G:List Pt.Pn}{T:TypeId}{old new:List Value}{T2:TypeId}{old2 new2:List Value}{c a s a2 s2:Bool}{u u2:Value}
theorem Pb.start(h:Wt w V wb gv q X f st gv G W):Pb w W V wb gv q X f X' f' st G T old new T2 old2 new2 false false false false false u u2 { W with drawn:=W.drawn+1 }:=by
 have hb:=drawn_below W
 exact⟨fun _=>h.below hb,(fun e=>by cases e),fun b hl=>⟨rfl,hl.lt,hl.nw,hl.ng,hl.off.below h.v.lt hb⟩,(fun e=>by cases e),(fun e=>by cases e),(fun e=>by cases e),(fun e=>by cases e),(fun e=>by cases e),Nat.le_refl _⟩
theorem Pb.s0(h:Pb w W V wb gv q X f X' f' st G T old new T2 old2 new2 c a s a2 s2 u u2 w')(hc:c=false):s=false∧s2=false:=by
 constructor
 ·cases e:s with
  | false=>rfl
  | true=>exact absurd (h.os e).1 (by rw[hc]; decide)
 ·cases e:s2 with
  | false=>rfl
  | true=>exact absurd (h.os2 e).1 (by rw[hc]; decide)
theorem Pb.call(h:Pb w W V wb gv q X f X' f' st G T old new T2 old2 new2 c a s a2 s2 u u2 w')(hc:c=false)(ht:TV w' V q X' f' w''):Pb w W V wb gv q X f X' f' st G T old new T2 old2 new2 true a s a2 s2 u u2 w'':=by
 have h0:=h.t0 hc
 have key:∀b,Lk V wb gv w' b→w''.heap[b]?=w'.heap[b]?∧Lk V wb gv w'' b:=fun b hl=>((h0.self).tv ht).keep hl
 obtain⟨e1,e2⟩:=h.s0 hc
 subst e1 e2
 refine⟨(fun e=>by cases e),fun _=>h0.tv ht,fun b hl=>?_,fun e=>?_,fun e=>?_,h.ne,(fun e=>by cases e),(fun e=>by cases e),Nat.le_trans h.sz ht.g.size⟩
 ·obtain⟨h1,h2⟩:=h.k b hl
  obtain⟨h3,h4⟩:=key b h2
  exact⟨h3.trans h1,h4⟩
 ·obtain⟨bk,e1,h1,h2,h3⟩:=h.al e
  obtain⟨h4,h5⟩:=key bk h1
  exact⟨bk,e1,h5,h2,h4.trans h3⟩
 ·obtain⟨bk,e1,h1,h2,h3⟩:=h.al2 e
  obtain⟨h4,h5⟩:=key bk h1
  exact⟨bk,e1,h5,h2,h4.trans h3⟩
theorem Pb.cur(h:Pb w W V wb gv q X f X' f' st G T old new T2 old2 new2 c a s a2 s2 u u2 w'):∃Y y,Wt w V wb gv q Y y st gv G w':=by
 cases e:c with
 | false=>exact⟨_,_,h.t0 e⟩
 | true=>exact⟨_,_,h.t1 e⟩
theorem Pb.vol(h:Pb w W V wb gv q X f X' f' st G T old new T2 old2 new2 c a s a2 s2 u u2 w'):w'.cell? ⟨wb,0,none⟩=some (.pointer (some ⟨V.b,V.o,none⟩)):=by
 obtain⟨Y,y,hw⟩:=h.cur
 exact hw.vol
theorem ptr_ne{n:Nat}{w:World}{v:Value}(h:v=.pointer (some ⟨n,0,none⟩))(hlt:n < w.heap.size):v≠.pointer (some ⟨w.heap.size,0,none⟩):=by
 rw[h]
 intro e
 injection e with e
 injection e with e
 injection e with e
 omega
theorem Pb.alloc(h:Pb w W V wb gv q X f X' f' st G T old new T2 old2 new2 c a s a2 s2 u u2 w')(ha:a=false):Pb w W V wb gv q X f X' f' st G T old new T2 old2 new2 c true s a2 s2 (.pointer (some ⟨w'.heap.size,0,none⟩)) u2 (w'.alloc (.cells old.toArray T)):=by
 have hs:s=false:=by
  cases e:s with
  | false=>rfl
  | true=>exact absurd (h.os e).2 (by rw[ha]; decide)
 subst hs
 obtain⟨Y,y,hw⟩:=h.cur
 obtain⟨_,h2,h3⟩:=hw.alloc (.cells old.toArray T)
 have hb:Below w'.heap.size w' (w'.alloc (.cells old.toArray T)):=(Below.refl _ _).alloc (Nat.le_refl _) _
 refine⟨fun e=>(h.t0 e).below hb,fun e=>(h.t1 e).below hb,fun b hl=>⟨(hb.block b (h.k b hl).2.lt).trans (h.k b hl).1,h3 b (h.k b hl).2⟩,fun _=>⟨_,rfl,h2,h.sz,heap_alloc_new _ _⟩,fun e=>?_,fun _ e=>?_,(fun e=>by cases e),h.os2,Nat.le_trans h.sz hb.size⟩
 ·obtain⟨bk,e1,k1,k2,k3⟩:=h.al2 e
  exact⟨bk,e1,h3 bk k1,k2,(hb.block bk k1.lt).trans k3⟩
 ·obtain⟨bk,e1,k1,_⟩:=h.al2 e
  exact(ptr_ne e1 k1.lt).symm
theorem Pb.alloc2(h:Pb w W V wb gv q X f X' f' st G T old new T2 old2 new2 c a s a2 s2 u u2 w')(ha:a2=false):Pb w W V wb gv q X f X' f' st G T old new T2 old2 new2 c a s true s2 u (.pointer (some ⟨w'.heap.size,0,none⟩)) (w'.alloc (.cells old2.toArray T2)):=by
 have hs:s2=false:=by
  cases e:s2 with
  | false=>rfl
  | true=>exact absurd (h.os2 e).2 (by rw[ha]; decide)
 subst hs
 obtain⟨Y,y,hw⟩:=h.cur
 obtain⟨_,h2,h3⟩:=hw.alloc (.cells old2.toArray T2)
 have hb:Below w'.heap.size w' (w'.alloc (.cells old2.toArray T2)):=(Below.refl _ _).alloc (Nat.le_refl _) _
 refine⟨fun e=>(h.t0 e).below hb,fun e=>(h.t1 e).below hb,fun b hl=>⟨(hb.block b (h.k b hl).2.lt).trans (h.k b hl).1,h3 b (h.k b hl).2⟩,fun e=>?_,fun _=>⟨_,rfl,h2,h.sz,heap_alloc_new _ _⟩,fun e _=>?_,h.os,(fun e=>by cases e),Nat.le_trans h.sz hb.size⟩
 ·obtain⟨bk,e1,k1,k2,k3⟩:=h.al e
  exact⟨bk,e1,h3 bk k1,k2,(hb.block bk k1.lt).trans k3⟩
 ·obtain⟨bk,e1,k1,_⟩:=h.al e
  exact ptr_ne e1 k1.lt
theorem Pb.row{bk:Nat}(h:Pb w W V wb gv q X f X' f' st G T old new T2 old2 new2 c a s a2 s2 (.pointer (some ⟨bk,0,none⟩)) u2 w')(ha:a=true)(hs:s=false):w'.heap[bk]?=some (.cells old.toArray T (0,0)):=by
 obtain⟨bk',e1,h1,h2,h3⟩:=h.al ha
 injection e1 with e1
 injection e1 with e1
 injection e1 with e1
 subst e1
 rw[hs] at h3
 exact h3
theorem Pb.row2{bk:Nat}(h:Pb w W V wb gv q X f X' f' st G T old new T2 old2 new2 c a s a2 s2 u (.pointer (some ⟨bk,0,none⟩)) w')(ha:a2=true)(hs:s2=false):w'.heap[bk]?=some (.cells old2.toArray T2 (0,0)):=by
 obtain⟨bk',e1,h1,h2,h3⟩:=h.al2 ha
 injection e1 with e1
 injection e1 with e1
 injection e1 with e1
 subst e1
 rw[hs] at h3
 exact h3
theorem Pb.store{bk:Nat}(h:Pb w W V wb gv q X f X' f' st G T old new T2 old2 new2 c a s a2 s2 (.pointer (some ⟨bk,0,none⟩)) u2 w')(hc:c=true)(ha:a=true)(hs:s=false)(hW:w.heap.size≤W.heap.size)(t1:T≠130)(t2:T≠108):Pb w W V wb gv q X f X' f' st G T old new T2 old2 new2 c a true a2 s2 (.pointer (some ⟨bk,0,none⟩)) u2 (w'.setRow bk new.toArray):=by
 have hr:=h.row ha hs
 subst hc ha
 obtain⟨bk',e1,h1,h2,h3⟩:=h.al rfl
 injection e1 with e1
 injection e1 with e1
 injection e1 with e1
 subst e1
 obtain⟨k1,k2⟩:=(h.t1 rfl).row h1 (by omega) hr t1 t2 (gR new.toArray)
 refine⟨(fun e=>by cases e),fun _=>k1,fun b hl=>⟨?_,k2 b (h.k b hl).2⟩,fun _=>⟨bk,rfl,k2 bk h1,h2,setRow_heap _ _ _ _ _ _ hr⟩,fun e=>?_,h.ne,fun _=>⟨rfl,rfl⟩,h.os2,by have:=h.sz; simpa using this⟩
 ·exact(setRow_other _ _ _ _ (by have:=hl.lt; omega)).trans (h.k b hl).1
 ·obtain⟨b2,e2,m1,m2,m3⟩:=h.al2 e
  have hne:=h.ne rfl e
  exact⟨b2,e2,k2 b2 m1,m2,(setRow_other _ _ _ _ (fun e3=>hne (by rw[e2,e3]))).trans m3⟩
theorem Pb.store2{bk:Nat}(h:Pb w W V wb gv q X f X' f' st G T old new T2 old2 new2 c a s a2 s2 u (.pointer (some ⟨bk,0,none⟩)) w')(hc:c=true)(ha:a2=true)(hs:s2=false)(hW:w.heap.size≤W.heap.size)(t1:T2≠130)(t2:T2≠108)(hg:w'.grownBy w'' (some bk))(hr2:w''.heap[bk]?=some (.cells new2.toArray T2 (0,0))):Pb w W V wb gv q X f X' f' st G T old new T2 old2 new2 c a s a2 true u (.pointer (some ⟨bk,0,none⟩)) w'':=by
 have hr:=h.row2 ha hs
 subst hc ha
 obtain⟨bk',e1,h1,h2,h3⟩:=h.al2 rfl
 injection e1 with e1
 injection e1 with e1
 injection e1 with e1
 subst e1
 obtain⟨k1,k2⟩:=(h.t1 rfl).row h1 (by omega) hr t1 t2 hg
 refine⟨(fun e=>by cases e),fun _=>k1,fun b hl=>⟨?_,k2 b (h.k b hl).2⟩,fun e=>?_,fun _=>⟨bk,rfl,k2 bk h1,h2,hr2⟩,h.ne,h.os,fun _=>⟨rfl,rfl⟩,Nat.le_trans h.sz hg.size⟩
 ·exact(hg.block b (h.k b hl).2.lt (by have:=hl.lt; simp; omega)).trans (h.k b hl).1
 ·obtain⟨b2,e2,m1,m2,m3⟩:=h.al e
  have hne:=h.ne e rfl
  exact⟨b2,e2,k2 b2 m1,m2,(hg.block b2 m1.lt (fun e3=>hne (by rw[e2]; injection e3 with e3; rw[e3]))).trans m3⟩
end
end St
namespace St
open Go.RowKit Dk Gm Eqb Rm Di Vl Qv Sp
open Vm (HasVol vM)
structure Ck(w w':World):Prop where
 os:w'.os=w.os
 tape:w'.tape=w.tape
 output:w'.output=w.output
 size:w.heap.size≤w'.heap.size
 cells:∀(k:Nat) (o:Obj),w.heap[k]?=some o→o.isCells=true→w'.heap[k]?=some o
section
variable {w w':World}
theorem Ck.of{row:Option Nat}(hg:w.grownBy w' row)(hr:∀r,row=some r→∃o:Obj,w.heap[r]?=some o∧o.isCells=false):Ck w w':=by
 refine⟨hg.os,hg.tape,hg.output,hg.size,fun k o hk ho=>?_⟩
 refine(hg.block k (Array.getElem?_eq_some_iff.1 hk).1 (fun e=>?_)).trans hk
 obtain⟨o2,h1,h2⟩:=hr k e.symm
 rw[hk] at h1
 injection h1 with h1
 rw[h1,h2] at ho
 cases ho
theorem Ck.row(h:Ck w w'){b:Nat}{c:Array Value}{t:TypeId}{fr:Nat × Nat}(hb:w.heap[b]?=some (.cells c t fr)):w'.heap[b]?=some (.cells c t fr):=h.cells b _ hb rfl
theorem Ck.cell(h:Ck w w'){a:Addr}{v:Value}(hc:w.cell? a=some v):w'.cell? a=some v:=by
 have e:w'.heap[a.block]?=w.heap[a.block]?:=by
  cases e:w.heap[a.block]? with
  | none=>simp[World.cell?,e] at hc
  | some o=>
   cases o with
   | cells c t fr=>exact h.cells _ _ e rfl
   | _=>simp[World.cell?,e] at hc
 exact(World.cell?_of_block e).trans hc
theorem Ck.lay(h:Ck w w'){g:Nat}{ao:Option Addr}{n cap k:Nat}{T:Nat→List Value}(hl:Lay w w.heap.size g ao n cap k T):Lay w' w'.heap.size g ao n cap k T:=
 ⟨hl.room,hl.nil,hl.rows.imp id fun⟨b,off,e,hb,hne,hr⟩=>⟨b,off,e,by have:=h.size; omega,hne,fun i hi j v hv=>h.cell (hr i hi j v hv)⟩⟩
theorem Ck.ty(h:Ck w w'){n:Nat}{ao:Option Addr}{t:TypeId}(ht:Ty w n ao t):Ty w' n ao t:=ht.imp id fun f b off s e=>by
 obtain⟨cur,hc⟩:=f b off s e
 exact⟨cur,h.row hc⟩
theorem Ck.vol(h:Ck w w'){V:Pl}{n k:Nat}{X:Dst}{M:Tab}{A B Z:Int}{f:Nat→Int}(hv:HasVol w V n X M A B Z k f):HasVol w' V n X M A B Z k f:=by
 obtain⟨hN,ao,kc,⟨pa,cap,⟨sa,sc,ca,cc,hh⟩,hl2,h0⟩,hs⟩:=hv
 refine⟨hN,ao,kc,⟨pa,cap,⟨sa,sc,ca,cc,h.row hh.bx,h.lay hh.ss,h.lay hh.cs,hh.nb,hh.mb,h.ty hh.ts,h.ty hh.tc⟩,h.lay hl2,h0⟩,?_⟩
 refine⟨⟨hs.lies.room,hs.lies.nil,fun hne=>?_⟩,hs.byte,hs.room⟩
 obtain⟨q,off,e,hq,hc⟩:=hs.lies.cells hne
 exact⟨q,off,e,by have:=h.size; omega,fun i hi=>h.cell (hc i hi)⟩
theorem Ck.kp(h:Ck w w')(hk:Rm.Kp w):Rm.Kp w':=⟨fun k hk'=>h.cell (hk.1 k hk'),Nat.lt_of_lt_of_le hk.2 h.size⟩
theorem Ck.own(h:Ck w w'){base n size:Nat}{e:TypeId}{v:Value}{xs:List Value}(ho:w.ownsRow base e size v n xs):w'.ownsRow base e size v n xs:=by
 refine⟨ho.1,?_⟩
 rcases ho.2 with h2 | ⟨g,cap,cur,h1,h2,h3,h4⟩
 ·exact .inl h2
 ·exact .inr ⟨g,cap,cur,h1,h2,h.row h3,h4⟩
end
section
variable {q:Qt}{X:Dst}{f:Nat→Int}{w w' w2:World}{V:Pl}{wb b:Nat}{gv0 gv:Value}{st:List Value}{G:List Pt.Pn}
theorem c9_some{w:World}{V:Pl}{n k:Nat}{X:Dst}{M:Tab}{A B Z:Int}{f:Nat→Int}(h:HasVol w V n X M A B Z k f):∃ao kc,w.cell? ⟨V.b,V.o+9,none⟩=some (.slice ao k kc):=by
 obtain⟨_,ao,kc,hv,_⟩:=h
 exact⟨ao,kc,hasV_c9 hv⟩
theorem Ck.off(h:Ck w w'){n k:Nat}{X:Dst}{M:Tab}{A B Z:Int}{f:Nat→Int}(hv:HasVol w V n X M A B Z k f)(ho:Off w V b):Off w' V b:=by
 obtain⟨ao,kc,hc⟩:=c9_some hv
 refine⟨ho.1,fun q o s k c e=>ho.2 q o s k c ?_⟩
 rw[h.cell hc] at e
 rw[hc]
 exact e
theorem Ck.loc(h:Ck w' w2){n k:Nat}{X:Dst}{M:Tab}{A B Z:Int}{f:Nat→Int}(hv:HasVol w' V n X M A B Z k f):Vl.Loc w' V w2:=by
 obtain⟨ao,kc,hc⟩:=c9_some hv
 exact Vl.Loc.same (by rw[hc]; exact h.cell hc)
theorem Wt.recd(h:Wt w V wb gv0 q X f st gv G w')(hc:Ck w' w2)(hk:∀k,k < w.heap.size→w2.heap[k]?=w'.heap[k]?):Wt w V wb gv0 q X f st gv G w2∧∀k,Lk V wb gv w' k→Lk V wb gv w2 k:=
 ⟨⟨hc.vol h.v,hc.row h.b,hc.own h.o,fun k e=>hc.off h.v (h.fo k e),hc.off h.v h.fb,Nat.le_trans h.sz hc.size,hc.os.trans h.os,hc.tape.trans h.tp,hc.output.trans h.ou,fun k hk' k1 k2 k3=>(hk k hk').trans (h.blk k hk' k1 k2 k3),h.own,h.loc.trans (hc.loc h.v) h.sz,hc.kp h.kp,h.vl,h.w0⟩,
  fun k hl=>⟨by have:=hl.lt; have:=hc.size; omega,hl.nw,hl.ng,hc.off h.v hl.off⟩⟩
theorem Wt.others(h:Wt w V wb gv0 q X f st gv G w'){w00:World}{gv00:Value}{X0:Dst}{f0:Nat→Int}{st0:List Value}{G0:List Pt.Pn}(h0:Wt w00 V wb gv00 q X0 f0 st0 gv0 G0 w):KeepsOthers w w':=by
 refine⟨h.sz,fun k o hk ho=>?_⟩
 have no:∀{c:Array Value} {t:TypeId} {fr:Nat × Nat},w.heap[k]?≠some (.cells c t fr):=fun e=>by
  rw[hk] at e
  injection e with e
  rw[e] at ho
  cases ho
 refine(h.blk k (Array.getElem?_eq_some_iff.1 hk).1 (fun e=>?_) (fun e=>?_) (fun e=>?_)).trans hk
 ·obtain⟨_,ao,kc,⟨pa,cap,⟨sa,sc,ca,cc,hh⟩,_,_⟩,_⟩:=h0.v
  have hb:w.heap[V.b]?=_:=hh.bx
  rw[e] at hb
  exact no hb
 ·have hb:=h0.b
  rw[e] at hb
  exact no hb
 ·rcases h0.o.2 with ⟨hv,_⟩ | ⟨b2,cap,cur,hv,_,hr,_⟩
  ·rw[hv] at e; cases e
  ·have hb2:b2=k:=by
    rw[hv] at e
    injection e
   subst hb2
   exact no hr
end
end St
namespace St
open Go.RowKit Go.Shelf Dk
attribute [local go_sem] Oper.semAt_some
theorem backwardp_any(ao:Option Addr)(m cap:Nat)(w:World) :
  Calls Tryz.prog 108 #[.slice ao m cap] w fun e w'=>e=.returned (.func (.func 140) #[] #[.pointer (some ⟨w.heap.size,0,none⟩)])∧w'=w.alloc (.cells #[.slice ao m cap] 52):=by
 go_enter Tryz.func108,Tryz.ntmps108
 go_wp2_with fail
 go_ret
 exact⟨rfl,rfl⟩
end St
namespace St
open Go.RowKit Dk Gm Eqb Rm Di Vl Qv Sp
open Vm (HasVol vM)
structure Bx(V:Pl)(wb:Nat)(gv:Value)(n0:Nat)(L:List (Nat × Array Value × TypeId))(W:World):Prop where
 i:∀(i:Nat) (x:Nat × Array Value × TypeId),L[i]?=some x→n0≤x.1∧Lk V wb gv W x.1∧W.heap[x.1]?=some (.cells x.2.1 x.2.2 (0,0))
 ne:∀(i j:Nat) (x y:Nat × Array Value × TypeId),L[i]?=some x→L[j]?=some y→x.1=y.1→i=j
section
variable {q:Qt}{X X':Dst}{f f':Nat→Int}{w w' w2 W W':World}{V:Pl}{wb b n0:Nat}{gv0 gv gv':Value}{st st':List Value}{G G':List Pt.Pn}{L:List (Nat × Array Value × TypeId)}
theorem Bx.nil:Bx V wb gv n0 [] W:=⟨fun i x h=>by simp at h,fun i j x y h=>by simp at h⟩
theorem Bx.keep(h:Bx V wb gv n0 L W)(hk:∀b,Lk V wb gv W b→W'.heap[b]?=W.heap[b]?∧Lk V wb gv' W' b):Bx V wb gv' n0 L W':=
 ⟨fun i x hx=>by
  obtain⟨h1,h2,h3⟩:=h.i i x hx
  obtain⟨k1,k2⟩:=hk _ h2
  exact⟨h1,k2,k1.trans h3⟩,h.ne⟩
theorem Bx.wt(h:Bx V wb gv n0 L W)(hw:Wt W V wb gv q X f st gv' G W'):Bx V wb gv' n0 L W':=h.keep fun _ hl=>hw.keep hl
theorem Bx.below(h:Bx V wb gv n0 L W)(hw:Wt w V wb gv0 q X f st gv G W)(hb:Below W.heap.size W W'):Bx V wb gv n0 L W':=h.keep fun _ hl=>hl.below hw.v.lt hb
theorem Bx.recd(h:Bx V wb gv n0 L W)(hw:Wt w V wb gv0 q X f st gv G W)(hc:Ck W W')(hk:∀k,k < w.heap.size→W'.heap[k]?=W.heap[k]?):Wt w V wb gv0 q X f st gv G W'∧Bx V wb gv n0 L W':=by
 obtain⟨h1,h2⟩:=hw.recd hc hk
 exact⟨h1,fun i x hx=>by
  obtain⟨a1,a2,a3⟩:=h.i i x hx
  exact⟨a1,h2 _ a2,hc.row a3⟩,h.ne⟩
theorem Bx.put(h:Bx V wb gv n0 L W)(hw:Wt w V wb gv0 q X f st gv G W)(hn:w.heap.size≤n0){i:Nat}{cur new:Array Value}{t:TypeId}(hi:L[i]?=some (b,cur,t))(t1:t≠130)(t2:t≠108)(hg:W.grownBy W' (some b))(hr:W'.heap[b]?=some (.cells new t (0,0))) :
  Wt w V wb gv0 q X f st gv G W'∧Bx V wb gv n0 (L.set i (b,new,t)) W':=by
 obtain⟨a1,a2,a3⟩:=h.i i _ hi
 obtain⟨h1,h2⟩:=hw.row a2 (Nat.le_trans hn a1) a3 t1 t2 hg
 have hil:i < L.length:=(List.getElem?_eq_some_iff.1 hi).1
 have get:∀(j:Nat) (x:Nat × Array Value × TypeId),(L.set i (b,new,t))[j]?=some x→(j=i∧x=(b,new,t))∨(j≠i∧L[j]?=some x):=fun j x hx=>by
  by_cases e:j=i
  ·subst e
   rw[List.getElem?_set_self hil] at hx
   exact .inl ⟨rfl,(Option.some.inj hx).symm⟩
  ·rw[List.getElem?_set_ne (Ne.symm e)] at hx
   exact .inr ⟨e,hx⟩
 refine⟨h1,fun j x hx=>?_,fun j k x y hx hy e=>?_⟩
 ·rcases get j x hx with ⟨_,rfl⟩ | ⟨e,hx⟩
  ·exact⟨a1,h2 _ a2,hr⟩
  ·obtain⟨b1,b2,b3⟩:=h.i j x hx
   exact⟨b1,h2 _ b2,(hg.block _ b2.lt (fun e2=>e (h.ne _ _ _ _ hx hi (Option.some.inj e2)))).trans b3⟩
 ·rcases get j x hx with ⟨e1,e2⟩ | ⟨_,hx'⟩ <;> rcases get k y hy with ⟨e3,e4⟩ | ⟨_,hy'⟩
  ·rw[e1,e3]
  ·rw[e1]
   exact(h.ne _ _ _ _ hy' hi (by rw[←e,e2])).symm
  ·rw[e3]
   exact h.ne _ _ _ _ hx' hi (by rw[e,e4])
  ·exact h.ne _ _ _ _ hx' hy' e
theorem Bx.row(h:Bx V wb gv n0 L W)(hw:Wt w V wb gv0 q X f st gv G W)(hn:w.heap.size≤n0)(i:Nat){cur:Array Value}(new:Array Value){t:TypeId}(hi:L[i]?=some (b,cur,t))(t1:t≠130)(t2:t≠108) :
  Wt w V wb gv0 q X f st gv G (W.setRow b new)∧Bx V wb gv n0 (L.set i (b,new,t)) (W.setRow b new):=
 h.put hw hn hi t1 t2 (gR new) (setRow_heap _ _ _ _ _ _ (h.i i _ hi).2.2)
theorem Bx.cell(h:Bx V wb gv n0 L W)(hw:Wt w V wb gv0 q X f st gv G W)(hn:w.heap.size≤n0)(i:Nat){cur:Value}(new:Value){t:TypeId}(hi:L[i]?=some (b,#[cur],t))(t1:t≠130)(t2:t≠108) :
  Wt w V wb gv0 q X f st gv G (W.setCell ⟨b,0,none⟩ new)∧Bx V wb gv n0 (L.set i (b,#[new],t)) (W.setCell ⟨b,0,none⟩ new):=
 h.put hw hn hi t1 t2 (only_put _ _ _ _) (by rw[heap_setCell_same W b 0 _ _ new (h.i i _ hi).2.2]; rfl)
theorem Bx.new(h:Bx V wb gv n0 L W)(hw:Wt w V wb gv0 q X f st gv G W)(hn:n0≤W.heap.size)(c:Array Value)(t:TypeId) :
  Wt w V wb gv0 q X f st gv G (W.alloc (.cells c t))∧Bx V wb gv n0 (L ++ [(W.heap.size,c,t)]) (W.alloc (.cells c t)):=by
 obtain⟨h1,h2,h3⟩:=hw.alloc (.cells c t)
 have hb:Below W.heap.size W (W.alloc (.cells c t)):=(Below.refl _ _).alloc (Nat.le_refl _) _
 have get:∀(j:Nat) (x:Nat × Array Value × TypeId),(L ++ [(W.heap.size,c,t)])[j]?=some x→(j=L.length∧x=(W.heap.size,c,t))∨L[j]?=some x:=fun j x hx=>by
  by_cases hj:j < L.length
  ·rw[List.getElem?_append_left hj] at hx
   exact .inr hx
  ·rw[List.getElem?_append_right (by omega)] at hx
   obtain⟨hlt,e⟩:=List.getElem?_eq_some_iff.1 hx
   simp only[List.length_singleton] at hlt
   have:j=L.length:=by omega
   subst this
   simp at hx
   exact .inl ⟨rfl,hx.symm⟩
 refine⟨h1,fun j x hx=>?_,fun j k x y hx hy e=>?_⟩
 ·rcases get j x hx with ⟨_,rfl⟩ | hx
  ·exact⟨hn,h2,heap_alloc_new _ _⟩
  ·obtain⟨b1,b2,b3⟩:=h.i j x hx
   exact⟨b1,h3 _ b2,(hb.block _ b2.lt).trans b3⟩
 ·rcases get j x hx with ⟨rfl,rfl⟩ | hx <;> rcases get k y hy with ⟨rfl,rfl⟩ | hy
  ·rfl
  ·have:=(h.i k y hy).2.1.lt
   simp only at e
   omega
  ·have:=(h.i j x hx).2.1.lt
   simp only at e
   omega
  ·exact h.ne _ _ _ _ hx hy e
theorem Bx.boxes:∀(l:List (Array Value × TypeId)) {W:World} {L:List (Nat × Array Value × TypeId)},Bx V wb gv n0 L W→Wt w V wb gv0 q X f st gv G W→n0≤W.heap.size→
  ∃W',W'=l.foldl (fun a o=>a.alloc (.cells o.1 o.2)) W∧Wt w V wb gv0 q X f st gv G W'∧Bx V wb gv n0 (L ++ l.mapIdx fun i o=>(W.heap.size+i,o.1,o.2)) W'∧W'.heap.size=W.heap.size+l.length∧Below W.heap.size W W'
 | [],W,L,h,hw,hn=>⟨W,rfl,hw,by simpa using h,rfl,Below.refl _ _⟩
 | o :: l,W,L,h,hw,hn=>by
  obtain⟨h1,h2⟩:=h.new hw hn o.1 o.2
  have hb:Below W.heap.size W (W.alloc (.cells o.1 o.2)):=(Below.refl _ _).alloc (Nat.le_refl _) _
  obtain⟨W',e,g1,g2,g3,g4⟩:=Bx.boxes l h2 h1 (by simp; omega)
  refine⟨W',e,g1,?_,by rw[g3]; simp; omega,hb.trans (g4.mono hb.size)⟩
  rw[List.append_assoc] at g2
  have ee:[(W.heap.size,o.1,o.2)] ++ l.mapIdx (fun i o'=>((W.alloc (.cells o.1 o.2)).heap.size+i,o'.1,o'.2))=(o :: l).mapIdx fun i o'=>(W.heap.size+i,o'.1,o'.2):=by
   rw[List.mapIdx_cons]
   simp only[World.size_alloc,List.singleton_append,Nat.add_zero,List.cons.injEq,true_and]
   congr 1
   funext i o'
   simp only[Prod.mk.injEq,and_true]
   omega
  rw[ee] at g2
  exact g2
end
end St
end Go.Proofs.YteaocagepfgfnaaGreatDoor
