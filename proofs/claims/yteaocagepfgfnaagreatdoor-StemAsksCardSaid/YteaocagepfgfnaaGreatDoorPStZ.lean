import Derived.Test.YteaocagepfgfnaaGreatDoorPStP
set_option maxRecDepth 100000
set_option maxHeartbeats 8000000
namespace Go.Proofs.YteaocagepfgfnaaGreatDoor
namespace St
open Go.RowKit Dk Gm Eqb Rm Di Vl Qv Sp
open Vm (HasVol vM)
variable {q:Qt}{X X':Dst}{f f':Nat→Int}{H:List Hd}
def wkC(V:Pl)(st:List Value)(gv:Value):List Value:=.pointer (some ⟨V.b,V.o,none⟩) :: (st ++ [gv])
structure Lk(V:Pl)(wb:Nat)(gv:Value)(w:World)(b:Nat):Prop where
 lt:b < w.heap.size
 nw:wb≠b
 ng:gv.ownBlock≠some b
 off:Off w V b
structure Wt(w:World)(V:Pl)(wb:Nat)(gv0:Value)(q:Qt)(X:Dst)(f:Nat→Int)(st:List Value)(gv:Value)(G:List Pt.Pn)(w':World):Prop where
 v:HV w' V q X f
 b:w'.heap[wb]?=some (.cells (wkC V st gv).toArray 91 (0,0))
 o:OwnP w' 1 gv G
 fo:∀k,gv.ownBlock=some k→Off w' V k
 fb:Off w' V wb
 sz:w.heap.size≤w'.heap.size
 os:w'.os=w.os
 tp:w'.tape=w.tape
 ou:w'.output=w.output
 blk:∀k,k < w.heap.size→V.b≠k→wb≠k→gv0.ownBlock≠some k→w'.heap[k]?=w.heap[k]?
 own:∀k,gv.ownBlock=some k→gv0.ownBlock=some k∨w.heap.size≤k
 loc:Vl.Loc w V w'
 kp:Rm.Kp w'
 vl:V.b < w.heap.size
 w0:wb≠0
section
variable {w w' w2:World}{V:Pl}{wb b:Nat}{gv0 gv gv2:Value}{st st2:List Value}{G G2:List Pt.Pn}
theorem Wt.keep(h:Wt w V wb gv0 q X f st gv G w')(hl:Lk V wb gv0 w b):w'.heap[b]?=w.heap[b]?∧Lk V wb gv w' b:=by
 refine⟨h.blk b hl.lt hl.off.1 hl.nw hl.ng,by have:=h.sz; have:=hl.lt; omega,hl.nw,fun e=>?_,hl.off.loc hl.lt h.loc⟩
 rcases h.own b e with e | e
 ·exact hl.ng e
 ·have:=hl.lt; omega
theorem Wt.trans(h:Wt w V wb gv0 q X f st gv G w')(h2:Wt w' V wb gv q X' f' st2 gv2 G2 w2):Wt w V wb gv0 q X' f' st2 gv2 G2 w2:=by
 refine⟨h2.v,h2.b,h2.o,h2.fo,h2.fb,Nat.le_trans h.sz h2.sz,h2.os.trans h.os,h2.tp.trans h.tp,h2.ou.trans h.ou,fun k hk k1 k2 k3=>?_,fun k e=>?_,h.loc.trans h2.loc h.sz,h2.kp,h.vl,h.w0⟩
 ·refine(h2.blk k (by have:=h.sz; omega) k1 k2 fun e=>?_).trans (h.blk k hk k1 k2 k3)
  rcases h.own k e with e | e
  ·exact k3 e
  ·omega
 ·rcases h2.own k e with e | e
  ·exact h.own k e
  ·exact .inr (by have:=h.sz; omega)
theorem own_ne_wb(ho:OwnP w 1 gv G){cs:Array Value}{t:TypeId}(hb:w.heap[wb]?=some (.cells cs t (0,0)))(hne:t≠24):gv.ownBlock≠some wb:=by
 intro e
 rcases ho.2 with ⟨hv,_⟩ | ⟨b2,cap,cur,hv,_,hr,_⟩
 ·rw[hv] at e; cases e
 ·have hb2:b2=wb:=by
   rw[hv] at e
   injection e
  subst hb2
  rw[hb] at hr
  injection hr with hr
  injection hr with _ hr _
  exact hne hr
theorem Wt.tv(h:Wt w V wb gv0 q X f st gv G w')(ht:TV w' V q X' f' w2):Wt w V wb gv0 q X' f' st gv G w2:=by
 have lb:=(Array.getElem?_eq_some_iff.1 h.b).1
 refine⟨ht.v,(tv_blk ht lb h.fb.1).trans h.b,World.ownsRow.kept h.o ht.g ?_,fun k e=>(h.fo k e).loc (World.ownsRow.lt h.o k e).2 ht.l,h.fb.loc lb ht.l,Nat.le_trans h.sz ht.g.size,ht.g.os.trans h.os,ht.g.tape.trans h.tp,ht.g.output.trans h.ou,fun k hk k1 k2 k3=>(ht.g.block k (by have:=h.sz; omega) (by simpa using Ne.symm k1)).trans (h.blk k hk k1 k2 k3),h.own,h.loc.trans ht.l h.sz,h.kp.grown ht.g (hasVol_ne h.v),h.vl,h.w0⟩
 cases e:gv.ownBlock with
 | none=>exact .inl rfl
 | some k=>exact .inr (by have:=(h.fo k e).1; simpa using Ne.symm this)
theorem Wt.below(h:Wt w V wb gv0 q X f st gv G w')(hb:Below w'.heap.size w' w2):Wt w V wb gv0 q X f st gv G w2:=h.tv (Tv.of h.v hb)
theorem Wt.row(h:Wt w V wb gv0 q X f st gv G w')(hl:Lk V wb gv w' b)(hbn:w.heap.size≤b){cur:Array Value}{t:TypeId}(hr:w'.heap[b]?=some (.cells cur t (0,0)))(t1:t≠130)(t2:t≠108)(hg:w'.grownBy w2 (some b)):Wt w V wb gv0 q X f st gv G w2∧∀k,Lk V wb gv w' k→Lk V wb gv w2 k:=by
 obtain⟨hv,ho⟩:=hasVol_only h.v (kq0 q) hl.off hr t1 t2 (.inl rfl) hg
 have hc:w2.cell? ⟨V.b,V.o+9,none⟩=w'.cell? ⟨V.b,V.o+9,none⟩:=World.cell?_of_block (hg.block V.b h.v.lt (by simpa using hl.off.1))
 have hoff:∀k,Off w' V k→Off w2 V k:=fun k hk=>⟨hk.1,fun a o s k c e=>hk.2 a o s k c (by rw[←hc]; exact e)⟩
 have lb:=(Array.getElem?_eq_some_iff.1 h.b).1
 refine⟨⟨hv,(hg.block wb lb (by simpa using hl.nw)).trans h.b,World.ownsRow.kept h.o hg (.inr hl.ng),fun k e=>hoff k (h.fo k e),hoff _ h.fb,Nat.le_trans h.sz hg.size,hg.os.trans h.os,hg.tape.trans h.tp,hg.output.trans h.ou,fun k hk k1 k2 k3=>(hg.block k (by have:=h.sz; omega) (by simp; omega)).trans (h.blk k hk k1 k2 k3),h.own,h.loc.trans (Vl.Loc.same hc) h.sz,h.kp.grown hg (by have:=h.vl; omega),h.vl,h.w0⟩,fun k hk=>⟨by have:=hg.size; have:=hk.lt; omega,hk.nw,hk.ng,hoff k hk.off⟩⟩
theorem Wt.new(h:Wt w V wb gv0 q X f st gv G w')(hb:w'.heap.size≤b):Off w' V b∧wb≠b∧gv.ownBlock≠some b:=by
 have lb:=(Array.getElem?_eq_some_iff.1 h.b).1
 refine⟨Off.new h.v (kq0 q) hb,by omega,fun e=>?_⟩
 have:=(World.ownsRow.lt h.o b e).2
 omega
theorem Wt.alloc(h:Wt w V wb gv0 q X f st gv G w')(o:Obj):Wt w V wb gv0 q X f st gv G (w'.alloc o)∧Lk V wb gv (w'.alloc o) w'.heap.size∧∀k,Lk V wb gv w' k→Lk V wb gv (w'.alloc o) k:=by
 have hb:Below w'.heap.size w' (w'.alloc o):=(Below.refl _ _).alloc (Nat.le_refl _) _
 obtain⟨n1,n2,n3⟩:=h.new (Nat.le_refl w'.heap.size)
 exact⟨h.below hb,⟨by simp,n2,n3,n1.below h.v.lt hb⟩,fun k hk=>⟨by have:=hk.lt; simp; omega,hk.nw,hk.ng,hk.off.below h.v.lt hb⟩⟩
theorem Wt.app(h:Wt w V wb gv0 q X f st gv G w'){G':List Pt.Pn}{v':Value}(ho:OwnP w2 1 v' G')(hg:w'.grownBy w2 gv.ownBlock)(hl:v'.ownBlock=gv.ownBlock∨v'.ownBlock=some w'.heap.size){w3:World}(h3:w2.grownBy w3 (some wb))(hr:w3.heap[wb]?=some (.cells (wkC V st v').toArray 91 (0,0))) :
  Wt w V wb gv0 q X f st v' G' w3∧∀k,Lk V wb gv w' k→w3.heap[k]?=w'.heap[k]?∧Lk V wb v' w3 k:=by
 have lb:=(Array.getElem?_eq_some_iff.1 h.b).1
 have hnw:=own_ne_wb h.o h.b (by decide)
 have hc1:w2.cell? ⟨V.b,V.o+9,none⟩=w'.cell? ⟨V.b,V.o+9,none⟩:=World.cell?_of_block (hg.block V.b h.v.lt (fun e=>(h.fo V.b e.symm).1 rfl))
 have hv2:HV w2 V q X f:=by
  cases e:gv.ownBlock with
  | none=>
   rw[e] at hg
   exact h.v.below (grown_none hg)
  | some k=>
   rw[e] at hg
   rcases h.o.2 with ⟨hv,_⟩ | ⟨b2,cap,cur,hv,_,hr,_⟩
   ·rw[hv] at e; cases e
   ·have hb2:b2=k:=by
     rw[hv] at e
     injection e
    subst hb2
    exact(hasVol_only h.v (kq0 q) (h.fo b2 e) hr (by decide) (by decide) (.inl rfl) hg).1
 have hoff2:∀k,Off w' V k→Off w2 V k:=fun k hk=>⟨hk.1,fun a o s k c e=>hk.2 a o s k c (by rw[←hc1]; exact e)⟩
 have hb2:w2.heap[wb]?=some (.cells (wkC V st gv).toArray 91 (0,0)):=(hg.block wb lb (Ne.symm hnw)).trans h.b
 obtain⟨hv3,_⟩:=hasVol_only hv2 (kq0 q) (hoff2 _ h.fb) hb2 (by decide) (by decide) (.inl rfl) h3
 have hc2:w3.cell? ⟨V.b,V.o+9,none⟩=w2.cell? ⟨V.b,V.o+9,none⟩:=World.cell?_of_block (h3.block V.b hv2.lt (by have:=h.fb.1; simpa using this))
 have hoff3:∀k,Off w2 V k→Off w3 V k:=fun k hk=>⟨hk.1,fun a o s k c e=>hk.2 a o s k c (by rw[←hc2]; exact e)⟩
 have hnw2:=own_ne_wb ho hb2 (by decide)
 have hown:∀k,v'.ownBlock=some k→gv.ownBlock=some k∨w'.heap.size≤k:=fun k e=>by
  rcases hl with hl | hl
  ·exact .inl (by rw[←hl]; exact e)
  ·rw[e] at hl
   injection hl with hl
   exact .inr (by omega)
 have hfo:∀k,v'.ownBlock=some k→Off w3 V k:=fun k e=>by
  rcases hown k e with e2 | e2
  ·exact hoff3 k (hoff2 k (h.fo k e2))
  ·exact hoff3 k (hoff2 k (Off.new h.v (kq0 q) e2))
 have hblk:∀k,k < w'.heap.size→V.b≠k→wb≠k→gv.ownBlock≠some k→w3.heap[k]?=w'.heap[k]?:=fun k hk _ k2 k3=>(h3.block k (by have:=hg.size; omega) (by simpa using Ne.symm k2)).trans (hg.block k hk (Ne.symm k3))
 have hkp2:Rm.Kp w2:=by
  cases e:gv.ownBlock with
  | none=>
   rw[e] at hg
   exact h.kp.below (grown_none hg)
  | some k=>
   rw[e] at hg
   have:=(World.ownsRow.lt h.o k e).1
   exact h.kp.grown hg (by omega)
 refine⟨⟨hv3,hr,World.ownsRow.kept ho h3 (.inr hnw2),hfo,hoff3 _ (hoff2 _ h.fb),Nat.le_trans h.sz (Nat.le_trans hg.size h3.size),h3.os.trans (hg.os.trans h.os),h3.tape.trans (hg.tape.trans h.tp),h3.output.trans (hg.output.trans h.ou),fun k hk k1 k2 k3=>?_,fun k e=>?_,h.loc.trans ((Vl.Loc.same hc1).trans (Vl.Loc.same hc2) hg.size) h.sz,hkp2.grown h3 h.w0,h.vl,h.w0⟩,fun k hk=>⟨hblk k hk.lt hk.off.1 hk.nw hk.ng,by have:=hg.size; have:=h3.size; have:=hk.lt; omega,hk.nw,fun e=>?_,hoff3 k (hoff2 k hk.off)⟩⟩
 ·refine(hblk k (by have:=h.sz; omega) k1 k2 fun e=>?_).trans (h.blk k hk k1 k2 k3)
  rcases h.own k e with e | e
  ·exact k3 e
  ·omega
 ·rcases hown k e with e | e
  ·exact h.own k e
  ·exact .inr (by have:=h.sz; omega)
 ·rcases hown k e with e | e
  ·exact hk.ng e
  ·have:=hk.lt; omega
theorem Wt.stem(h:Wt w V wb gv0 q X f st gv G w')(hg:w'.grownBy w2 (some wb))(hr:w2.heap[wb]?=some (.cells (wkC V st2 gv).toArray 91 (0,0))):Wt w V wb gv0 q X f st2 gv G w2∧∀k,Lk V wb gv w' k→w2.heap[k]?=w'.heap[k]?∧Lk V wb gv w2 k:=by
 have hnw:=own_ne_wb h.o h.b (by decide)
 obtain⟨hv,_⟩:=hasVol_only h.v (kq0 q) h.fb h.b (by decide) (by decide) (.inl rfl) hg
 have hc:w2.cell? ⟨V.b,V.o+9,none⟩=w'.cell? ⟨V.b,V.o+9,none⟩:=World.cell?_of_block (hg.block V.b h.v.lt (by have:=h.fb.1; simpa using this))
 have hoff:∀k,Off w' V k→Off w2 V k:=fun k hk=>⟨hk.1,fun a o s k c e=>hk.2 a o s k c (by rw[←hc]; exact e)⟩
 have hblk:∀k,k < w'.heap.size→wb≠k→w2.heap[k]?=w'.heap[k]?:=fun k hk k2=>hg.block k hk (by simpa using Ne.symm k2)
 exact⟨⟨hv,hr,World.ownsRow.kept h.o hg (.inr hnw),fun k e=>hoff k (h.fo k e),hoff _ h.fb,Nat.le_trans h.sz hg.size,hg.os.trans h.os,hg.tape.trans h.tp,hg.output.trans h.ou,fun k hk k1 k2 k3=>(hblk k (by have:=h.sz; omega) k2).trans (h.blk k hk k1 k2 k3),h.own,h.loc.trans (Vl.Loc.same hc) h.sz,h.kp.grown hg h.w0,h.vl,h.w0⟩,
  fun k hk=>⟨hblk k hk.lt hk.nw,by have:=hg.size; have:=hk.lt; omega,hk.nw,hk.ng,hoff k hk.off⟩⟩
theorem Wt.self(h:Wt w V wb gv0 q X f st gv G w'):Wt w' V wb gv q X f st gv G w':=
 ⟨h.v,h.b,h.o,h.fo,h.fb,Nat.le_refl _,rfl,rfl,rfl,fun _ _ _ _ _=>rfl,fun _ e=>.inl e,Vl.Loc.refl _ _,h.kp,h.v.lt,h.w0⟩
structure Pa(w W:World)(V:Pl)(wb:Nat)(gv:Value)(q:Qt)(X:Dst)(f:Nat→Int)(X':Dst)(f':Nat→Int)(st:List Value)(G:List Pt.Pn)(T:TypeId)(old new:List Value)(c a s:Bool)(u:Value)(w':World):Prop where
 t0:c=false→Wt w V wb gv q X f st gv G w'
 t1:c=true→Wt w V wb gv q X' f' st gv G w'
 k:∀b,Lk V wb gv W b→w'.heap[b]?=W.heap[b]?∧Lk V wb gv w' b
 al:a=true→∃bk,u=.pointer (some ⟨bk,0,none⟩)∧Lk V wb gv w' bk∧W.heap.size≤bk∧w'.heap[bk]?=some (.cells (if s then new else old).toArray T (0,0))
 or':s=true→c=true∧a=true
 sz:W.heap.size≤w'.heap.size
section
variable {W w'':World}{T:TypeId}{old new:List Value}{c a s:Bool}{u:Value}
theorem Pa.start(h:Wt w V wb gv q X f st gv G W):Pa w W V wb gv q X f X' f' st G T old new false false false u { W with drawn:=W.drawn+1 }:=by
 have hb:Below W.heap.size W { W with drawn:=W.drawn+1 }:=⟨rfl,rfl,rfl,Nat.le_refl _,fun _ _=>rfl⟩
 exact⟨fun _=>h.below hb,(fun e=>by cases e),fun b hl=>⟨rfl,hl.lt,hl.nw,hl.ng,hl.off.below h.v.lt hb⟩,(fun e=>by cases e),(fun e=>by cases e),Nat.le_refl _⟩
theorem Pa.call(h:Pa w W V wb gv q X f X' f' st G T old new c a s u w')(hc:c=false)(ht:TV w' V q X' f' w''):Pa w W V wb gv q X f X' f' st G T old new true a s u w'':=by
 have h0:=h.t0 hc
 have key:∀b,Lk V wb gv w' b→w''.heap[b]?=w'.heap[b]?∧Lk V wb gv w'' b:=fun b hl=>((h0.self).tv ht).keep hl
 have hs:s=false:=by
  cases e:s with
  | false=>rfl
  | true=>exact absurd (h.or' e).1 (by rw[hc]; decide)
 subst hs
 refine⟨(fun e=>by cases e),fun _=>h0.tv ht,fun b hl=>?_,fun e=>?_,(fun e=>by cases e),Nat.le_trans h.sz ht.g.size⟩
 ·obtain⟨h1,h2⟩:=h.k b hl
  obtain⟨h3,h4⟩:=key b h2
  exact⟨h3.trans h1,h4⟩
 ·obtain⟨bk,e1,h1,h2,h3⟩:=h.al e
  obtain⟨h4,h5⟩:=key bk h1
  exact⟨bk,e1,h5,h2,h4.trans h3⟩
theorem Pa.cur(h:Pa w W V wb gv q X f X' f' st G T old new c a s u w'):∃Y y,Wt w V wb gv q Y y st gv G w':=by
 cases e:c with
 | false=>exact⟨_,_,h.t0 e⟩
 | true=>exact⟨_,_,h.t1 e⟩
theorem Pa.alloc(h:Pa w W V wb gv q X f X' f' st G T old new c a s u w')(ha:a=false):Pa w W V wb gv q X f X' f' st G T old new c true s (.pointer (some ⟨w'.heap.size,0,none⟩)) (w'.alloc (.cells old.toArray T)):=by
 have hs:s=false:=by
  cases e:s with
  | false=>rfl
  | true=>exact absurd (h.or' e).2 (by rw[ha]; decide)
 subst hs
 obtain⟨Y,y,hw⟩:=h.cur
 obtain⟨_,h2,h3⟩:=hw.alloc (.cells old.toArray T)
 have hb:Below w'.heap.size w' (w'.alloc (.cells old.toArray T)):=(Below.refl _ _).alloc (Nat.le_refl _) _
 exact⟨fun e=>(h.t0 e).below hb,fun e=>(h.t1 e).below hb,fun b hl=>⟨(hb.block b (h.k b hl).2.lt).trans (h.k b hl).1,h3 b (h.k b hl).2⟩,fun _=>⟨_,rfl,h2,h.sz,heap_alloc_new _ _⟩,(fun e=>by cases e),Nat.le_trans h.sz hb.size⟩
theorem Pa.row{bk:Nat}(h:Pa w W V wb gv q X f X' f' st G T old new c a s (.pointer (some ⟨bk,0,none⟩)) w')(ha:a=true)(hs:s=false):w'.heap[bk]?=some (.cells old.toArray T (0,0)):=by
 obtain⟨bk',e1,h1,h2,h3⟩:=h.al ha
 injection e1 with e1
 injection e1 with e1
 injection e1 with e1
 subst e1
 rw[hs] at h3
 exact h3
theorem Pa.store{bk:Nat}(h:Pa w W V wb gv q X f X' f' st G T old new c a s (.pointer (some ⟨bk,0,none⟩)) w')(hc:c=true)(ha:a=true)(hs:s=false)(hW:w.heap.size≤W.heap.size)(t1:T≠130)(t2:T≠108):Pa w W V wb gv q X f X' f' st G T old new c a true (.pointer (some ⟨bk,0,none⟩)) (w'.setRow bk new.toArray):=by
 have hr:=h.row ha hs
 subst hc ha
 obtain⟨bk',e1,h1,h2,h3⟩:=h.al rfl
 injection e1 with e1
 injection e1 with e1
 injection e1 with e1
 subst e1
 obtain⟨k1,k2⟩:=(h.t1 rfl).row h1 (by omega) hr t1 t2 (gR new.toArray)
 refine⟨(fun e=>by cases e),fun _=>k1,fun b hl=>⟨?_,k2 b (h.k b hl).2⟩,fun _=>⟨bk,rfl,k2 bk h1,h2,setRow_heap _ _ _ _ _ _ hr⟩,fun _=>⟨rfl,rfl⟩,by have:=h.sz; simpa using this⟩
 exact(setRow_other _ _ _ _ (by have:=hl.lt; omega)).trans (h.k b hl).1
end
theorem Wt.vol(h:Wt w V wb gv0 q X f st gv G w'):w'.cell? ⟨wb,0,none⟩=some (.pointer (some ⟨V.b,V.o,none⟩)):=by
 rw[cell_of_row _ _ _ _ _ _ h.b]
 simp[wkC]
theorem Wt.gone(h:Wt w V wb gv0 q X f st gv G w')(hst:st.length=36):w'.cell? ⟨wb,37,none⟩=some gv:=by
 rw[cell_of_row _ _ _ _ _ _ h.b]
 simp only[wkC,List.getElem?_toArray,List.getElem?_cons_succ]
 rw[List.getElem?_append_right (by omega),hst]
 rfl
theorem Wt.boxes:∀(l:List (Array Value × TypeId)) {w':World},Wt w V wb gv0 q X f st gv G w'→∃W,W=l.foldl (fun a o=>a.alloc (.cells o.1 o.2)) w'∧Wt w V wb gv0 q X f st gv G W∧W.heap.size=w'.heap.size+l.length∧Below w'.heap.size w' W∧
  (∀i o,l[i]?=some o→W.heap[w'.heap.size+i]?=some (.cells o.1 o.2 (0,0))∧Lk V wb gv W (w'.heap.size+i))∧∀k,Lk V wb gv w' k→W.heap[k]?=w'.heap[k]?∧Lk V wb gv W k
 | [],w',h=>⟨w',rfl,h,rfl,Below.refl _ _,fun i o e=>by simp at e,fun k hk=>⟨rfl,hk⟩⟩
 | o :: l,w',h=>by
  obtain⟨h1,h2,h3⟩:=h.alloc (.cells o.1 o.2)
  have hb:Below w'.heap.size w' (w'.alloc (.cells o.1 o.2)):=(Below.refl _ _).alloc (Nat.le_refl _) _
  have hs:(w'.alloc (.cells o.1 o.2)).heap.size=w'.heap.size+1:=by simp
  have hr:=heap_alloc_new w' (.cells o.1 o.2)
  obtain⟨W,hW,g1,g2,g3,g4,g5⟩:=Wt.boxes l h1
  refine⟨W,hW,g1,by rw[g2,hs,List.length_cons]; omega,hb.trans (g3.mono hb.size),fun i x e=>?_,fun k hk=>⟨(g5 k (h3 k hk)).1.trans (hb.block k hk.lt),(g5 k (h3 k hk)).2⟩⟩
  cases i with
  | zero=>
   simp at e
   subst e
   exact⟨(g5 _ h2).1.trans hr,(g5 _ h2).2⟩
  | succ i=>
   simp at e
   have:=g4 i x e
   rw[hs] at this
   rwa [show w'.heap.size+1+i=w'.heap.size+(i+1) by omega] at this
section
variable {W w'':World}{T:TypeId}{old new:List Value}{c a s:Bool}{u:Value}
theorem Pa.vol(h:Pa w W V wb gv q X f X' f' st G T old new c a s u w'):w'.cell? ⟨wb,0,none⟩=some (.pointer (some ⟨V.b,V.o,none⟩)):=by
 obtain⟨Y,y,hw⟩:=h.cur
 exact hw.vol
end
theorem wkC_gone(V:Pl){st:List Value}(h:st.length=36)(gv v:Value):(wkC V st gv).toArray.setIfInBounds 37 v=(wkC V st v).toArray:=by
 simp only[wkC,List.setIfInBounds_toArray,List.set_cons_succ]
 rw[List.set_append_right _ _ (by omega),h]
 rfl
theorem wp_sliceP{w:World}{o:Oper}{a:Act}{K:Act→World→Prop}{Q:Exit→Act→World→Prop}(p:Pt.Pn)(x:Operand)(ho:o.op=.buildSlice 52 1 #[(0,x)])(hx:a.eval x=.agg (Pt.pV p).toArray)
  (h:K (a.put o.dst (.slice (some ⟨w.heap.size,0,none⟩) 1 1)) (w.alloc (.cells (Pt.pV p).toArray 24))):o.wp Tryz.prog a w K Q:=by
 obtain⟨i0,hi,hz0,hz1,hz2⟩:=info_parts inf_ptr
 refine wp_buildSlice 52 24 1 #[(0,x)] ho _ i0 _ und_ptrs hi hz0 (by rw[hz1]; decide) (by rw[hz1]; decide) ?_ h
 rw[hz1]
 simp only[List.map_toArray,List.map_cons,List.map_nil,hx]
 exact fillP p
theorem wp_appAny{w:World}{o:Oper}{a:Act}{K:Act→World→Prop}{Q:Exit→Act→World→Prop}(s x:Operand)
  (ho:o.op=.call { callee:=.builtin .append,args:=#[s,x],argTypes:=#[52,52] }) (base base2:Nat) (v v2:Value) (H L:List Pt.Pn) (hs:a.eval s=v) (hown:OwnP w base v H) (hx:a.eval x=v2) (hown2:OwnP w base2 v2 L)
  (hlen:H.length+L.length≤1000000) (hbase:base≤w.heap.size)
  (h:∀v' w',OwnP w' base v' (H ++ L)→w.grownBy w' v.ownBlock→(v'.ownBlock=v.ownBlock∨v'.ownBlock=some w.heap.size)→K (a.put o.dst v') w'):o.wp Tryz.prog a w K Q:=by
 obtain⟨v',w',hr,h2,h3,h4⟩:=run_app_any o.type hown hown2 hlen hbase
 unfold Oper.wp execOp
 simp only[ho,resolve,invoke,builtin,Sem.run_bind,Sem.run_pure,Result.andThen_ok,List.map_toArray,List.map_cons,List.map_nil,hs,hx,hr]
 exact h v' w' h2 h3 h4
structure Ga(w W:World)(V:Pl)(wb:Nat)(gv:Value)(q:Qt)(X:Dst)(f:Nat→Int)(st:List Value)(G P:List Pt.Pn)(ss sa sb:Bool)(us ua:Value)(w':World):Prop where
 e0:sa=false→Wt w V wb gv q X f st gv G w'∧∀k,Lk V wb gv W k→w'.heap[k]?=W.heap[k]?∧Lk V wb gv w' k
 sl:ss=true→sa=false→OwnP w' 1 us P
 e1:sa=true→sb=false→∃w1,(Wt w V wb gv q X f st gv G w1∧∀k,Lk V wb gv W k→w1.heap[k]?=W.heap[k]?∧Lk V wb gv w1 k)∧OwnP w' 1 ua (G ++ P)∧w1.grownBy w' gv.ownBlock∧(ua.ownBlock=gv.ownBlock∨ua.ownBlock=some w1.heap.size)
 e2:sb=true→Wt w V wb gv q X f st ua (G ++ P) w'∧∀k,Lk V wb gv W k→w'.heap[k]?=W.heap[k]?∧Lk V wb ua w' k
 or':sb=true→sa=true
section
variable {W w'':World}{P:List Pt.Pn}{ss sa sb:Bool}{us ua:Value}
theorem drawn_below(W:World):Below W.heap.size W { W with drawn:=W.drawn+1 }:=⟨rfl,rfl,rfl,Nat.le_refl _,fun _ _=>rfl⟩
theorem Ga.start(h:Wt w V wb gv q X f st gv G W):Ga w W V wb gv q X f st G P false false false us ua { W with drawn:=W.drawn+1 }:=
 ⟨fun _=>⟨h.below (drawn_below W),fun b hl=>⟨rfl,hl.lt,hl.nw,hl.ng,hl.off.below h.v.lt (drawn_below W)⟩⟩,(fun e=>by cases e),(fun e=>by cases e),(fun e=>by cases e),(fun e=>by cases e)⟩
theorem Ga.sb0(h:Ga w W V wb gv q X f st G P ss sa sb us ua w')(ha:sa=false):sb=false:=by
 cases e:sb with
 | false=>rfl
 | true=>exact absurd (h.or' e) (by rw[ha]; decide)
theorem Ga.slice{p:Pt.Pn}(h:Ga w W V wb gv q X f st G [p] ss sa sb us ua w')(ha:sa=false):Ga w W V wb gv q X f st G [p] true sa sb (.slice (some ⟨w'.heap.size,0,none⟩) 1 1) ua (w'.alloc (.cells (Pt.pV p).toArray 24)):=by
 obtain⟨h1,h2⟩:=h.e0 ha
 have hb:=h.sb0 ha
 obtain⟨a1,_,a3⟩:=h1.alloc (.cells (Pt.pV p).toArray 24)
 have hbl:Below w'.heap.size w' (w'.alloc (.cells (Pt.pV p).toArray 24)):=(Below.refl _ _).alloc (Nat.le_refl _) _
 refine⟨fun _=>⟨a1,fun k hk=>⟨(hbl.block k (h2 k hk).2.lt).trans (h2 k hk).1,a3 k (h2 k hk).2⟩⟩,fun _ _=>?_,(fun e=>by rw[ha] at e; cases e),(fun e=>absurd (e.symm.trans hb) (by decide)),(fun e=>absurd (e.symm.trans hb) (by decide))⟩
 have:=World.ownsRow_lit (e:=24) (size:=34) (base:=1) w' (Pt.pV p).toArray 1 (by have:=h1.v.lt; omega) (by unfold maxLen; omega) (by rw[Pt.pV_asize])
 unfold OwnP
 rw[pcs_single]
 exact this
theorem Ga.app(h:Ga w W V wb gv q X f st G P ss sa sb us ua w')(ha:sa=false){v':Value}(ho:OwnP w'' 1 v' (G ++ P))(hg:w'.grownBy w'' gv.ownBlock)(hl:v'.ownBlock=gv.ownBlock∨v'.ownBlock=some w'.heap.size):Ga w W V wb gv q X f st G P ss true sb us v' w'':=by
 have hb:=h.sb0 ha
 exact⟨(fun e=>by cases e),(fun _ e=>by cases e),fun _ _=>⟨w',h.e0 ha,ho,hg,hl⟩,(fun e=>absurd (e.symm.trans hb) (by decide)),(fun e=>absurd (e.symm.trans hb) (by decide))⟩
theorem Ga.wb37(h:Ga w W V wb gv q X f st G P ss sa sb us ua w')(ha:sa=true)(hb:sb=false):w'.heap[wb]?=some (.cells (wkC V st gv).toArray 91 (0,0)):=by
 obtain⟨w1,⟨h1,_⟩,_,hg,_⟩:=h.e1 ha hb
 have lb:=(Array.getElem?_eq_some_iff.1 h1.b).1
 exact(hg.block wb lb (Ne.symm (own_ne_wb h1.o h1.b (by decide)))).trans h1.b
theorem Ga.store(h:Ga w W V wb gv q X f st G P ss sa sb us ua w')(ha:sa=true)(hb:sb=false)(hst:st.length=36):Ga w W V wb gv q X f st G P ss sa true us ua (w'.setCell ⟨wb,37,none⟩ ua):=by
 have hr:=h.wb37 ha hb
 obtain⟨w1,⟨h1,h2⟩,ho,hg,hl⟩:=h.e1 ha hb
 have hr3:(w'.setCell ⟨wb,37,none⟩ ua).heap[wb]?=some (.cells (wkC V st ua).toArray 91 (0,0)):=by
  rw[heap_setCell_same w' wb 37 _ _ ua hr,wkC_gone V hst]
 obtain⟨k1,k2⟩:=h1.app ho hg hl (only_put w' wb 37 ua) hr3
 refine⟨(fun e=>by rw[ha] at e; cases e),(fun _ e=>by rw[ha] at e; cases e),(fun _ e=>by cases e),fun _=>⟨k1,fun k hk=>⟨(k2 k (h2 k hk).2).1.trans (h2 k hk).1,(k2 k (h2 k hk).2).2⟩⟩,fun _=>ha⟩
end
structure Pc(w W:World)(V:Pl)(wb:Nat)(gv:Value)(q:Qt)(X:Dst)(f:Nat→Int)(X':Dst)(f':Nat→Int)(st:List Value)(G G':List Pt.Pn)(b6:Nat)(T:TypeId)(cur new:List Value)(c s:Bool)(w':World):Prop where
 t0:c=false→Wt w V wb gv q X f st gv G w'∧∀k,Lk V wb gv W k→w'.heap[k]?=W.heap[k]?∧Lk V wb gv w' k
 t1:c=true→∃gv',Wt w V wb gv q X' f' st gv' G' w'∧∀k,Lk V wb gv W k→(k≠b6→w'.heap[k]?=W.heap[k]?)∧Lk V wb gv' w' k
 r:Lk V wb gv W b6∧w.heap.size≤b6∧w'.heap[b6]?=some (.cells (if s then new else cur).toArray T (0,0))
 or':s=true→c=true
section
variable {W w'':World}{T:TypeId}{cur new:List Value}{c s:Bool}{b6:Nat}{G':List Pt.Pn}
theorem Pc.start(h:Wt w V wb gv q X f st gv G W)(hl:Lk V wb gv W b6)(hb:w.heap.size≤b6)(hr:W.heap[b6]?=some (.cells cur.toArray T (0,0))):Pc w W V wb gv q X f X' f' st G G' b6 T cur new false false { W with drawn:=W.drawn+1 }:=
 ⟨fun _=>⟨h.below (drawn_below W),fun b hl=>⟨rfl,hl.lt,hl.nw,hl.ng,hl.off.below h.v.lt (drawn_below W)⟩⟩,(fun e=>by cases e),⟨hl,hb,hr⟩,(fun e=>by cases e)⟩
theorem Pc.s0(h:Pc w W V wb gv q X f X' f' st G G' b6 T cur new c s w')(hc:c=false):s=false:=by
 cases e:s with
 | false=>rfl
 | true=>exact absurd (h.or' e) (by rw[hc]; decide)
theorem Pc.call{gv2:Value}(h:Pc w W V wb gv q X f X' f' st G G' b6 T cur new c s w')(hc:c=false)(ht:Wt w' V wb gv q X' f' st gv2 G' w''):Pc w W V wb gv q X f X' f' st G G' b6 T cur new true s w'':=by
 obtain⟨h1,h2⟩:=h.t0 hc
 have hs:=h.s0 hc
 subst hs
 obtain⟨r1,r2,r3⟩:=h.r
 have hk:=fun k (hl:Lk V wb gv W k)=>ht.keep (h2 k hl).2
 exact⟨(fun e=>by cases e),fun _=>⟨gv2,h1.trans ht,fun k hl=>⟨fun _=>(hk k hl).1.trans (h2 k hl).1,(hk k hl).2⟩⟩,⟨r1,r2,(hk _ r1).1.trans r3⟩,(fun e=>by cases e)⟩
theorem Pc.row(h:Pc w W V wb gv q X f X' f' st G G' b6 T cur new c s w')(hs:s=false):w'.heap[b6]?=some (.cells cur.toArray T (0,0)):=by
 have:=h.r.2.2
 rw[hs] at this
 exact this
theorem Pc.store(h:Pc w W V wb gv q X f X' f' st G G' b6 T cur new c s w')(hc:c=true)(hs:s=false)(t1:T≠130)(t2:T≠108):Pc w W V wb gv q X f X' f' st G G' b6 T cur new c true (w'.setRow b6 new.toArray):=by
 have hr:=h.row hs
 obtain⟨r1,r2,_⟩:=h.r
 subst hc
 obtain⟨gv',k1,k2⟩:=h.t1 rfl
 obtain⟨m1,m2⟩:=k1.row (k2 b6 r1).2 r2 hr t1 t2 (gR new.toArray)
 exact⟨(fun e=>by cases e),fun _=>⟨gv',m1,fun k hl=>⟨fun hne=>(setRow_other _ _ _ _ hne).trans ((k2 k hl).1 hne),m2 k (k2 k hl).2⟩⟩,⟨r1,r2,setRow_heap _ _ _ _ _ _ hr⟩,fun _=>rfl⟩
theorem Wt.at(h:Wt w V wb gv0 q X f st gv G w'){j:Nat}{v:Value}(hj:st[j]?=some v):w'.cell? ⟨wb,j+1,none⟩=some v:=by
 rw[cell_of_row _ _ _ _ _ _ h.b]
 simp only[wkC,List.getElem?_toArray,List.getElem?_cons_succ]
 rw[List.getElem?_append_left (List.getElem?_eq_some_iff.1 hj).1]
 exact hj
end
theorem Lk.below(hl:Lk V wb gv w b)(hv:V.b < w.heap.size)(hb:Below w.heap.size w w2):w2.heap[b]?=w.heap[b]?∧Lk V wb gv w2 b:=
 ⟨hb.block b hl.lt,by have:=hl.lt; have:=hb.size; omega,hl.nw,hl.ng,hl.off.below hv hb⟩
end
end St
end Go.Proofs.YteaocagepfgfnaaGreatDoor
