import Derived.Test.YteaocagepfgfnaaGreatDoorPStV
import Derived.Test.YteaocagepfgfnaaGreatDoorPStB
import Derived.Test.YteaocagepfgfnaaGreatDoorPAl
set_option maxRecDepth 100000
set_option maxHeartbeats 8000000
namespace Go.Proofs.YteaocagepfgfnaaGreatDoor
namespace St
open Go.RowKit Go.Shelf Dk
attribute [local go_sem] Oper.semAt_some
def Bk(Bs b m cap:Nat)(Q:Nat→Pt.Pn)(W:World):Prop:=
 W.cell? ⟨Bs,0,none⟩=some (.slice (some ⟨b,0,none⟩) m cap)∧∀j,j < m→W.rangeAt b (j * 34) (Pt.pV (Q j))
theorem backp2_in(F:Fence)(n:Nat)(h8:F.fn 140)(hro:F.round=none)(hn:1≤n)(l Bs b m cap:Nat)(Q:Nat→Pt.Pn)(hm:m≤1000000)(hm0:1≤m)(J:Nat→World→Prop)(Jx:World→Prop)
  (hB:∀k W,J k W→Bk Bs b m cap Q W)
  (hY:∀k W,k < m→J (k+1) W→YieldAt F (n - 1) Tryz.prog l #[.int .i64 (k:Nat),.agg (Pt.pV (Q k)).toArray] W fun e W'=>(e=.returned (.bool true)∧J k W')∨(e=.returned (.bool false)∧Jx W'))
  (W:World) (h0:J m W) :
  CallsIn F n Tryz.prog 140 #[.func (.yield l) #[] #[],.pointer (some ⟨Bs,0,none⟩)] W fun e W'=>(∃v,e=.returned v)∧(J 0 W'∨Jx W'):=by
 have HBB:=Lib.hid hB
 have cBs:=(hB m W h0).1
 clear hB
 refine callsIn_of_wp Tryz.func140 rfl h8 ?_ hro
 simp only[Tryz.ntmps140,List.size_toArray,List.length_cons,List.length_nil,Nat.reduceAdd,Nat.reduceSub,Array.replicate_succ,Array.replicate_zero,List.push_toArray,List.append_toArray,List.nil_append,List.cons_append]
 gi_wp2
 gi_loopw [3] (fun i wr=>∃k:Nat,k≤m∧i=.int .i64 ((k:Int) - 1)∧J k wr)
  (fun i _=>(intOf i+1).toNat)
 case atStart=>exact⟨m,Nat.le_refl _,rfl,h0⟩
 case round=>
  obtain⟨k,hk,rfl,hJs⟩:=hrel
  obtain⟨cB,hrw⟩:=HBB.out _ _ hJs
  rcases k with _ | x
  ·rw[show((0:Nat):Int) - 1 = -1 by omega]
   gi_wp2
   go_end0
   exact⟨⟨_,rfl⟩,.inl hJs⟩
  ·have hxm:x < m:=by omega
   obtain⟨fn,tmps,assign,body,hy,hR⟩:=hY x wr hxm hJs
   have hrow:wr.rangeAt b (x * 34) (Pt.pV (Q x)):=hrw x hxm
   rw[show((x+1:Nat):Int) - 1=(x:Int) by omega]
   have hx0:(0:Int)≤(x:Int):=by omega
   have hxi:(x:Int) < (m:Int):=by omega
   clear hrw
   try dsimp only at hy
   generalize hX:Pt.pV (Q x)=X at hy hrow
   have hXs:(Tryz.prog.info? 24).map (·.size)=some X.length:=by rw[←hX]; exact Pt.sizeP _
   gi_wp2_with (refine wpListIn_load_mid rfl 24 (.tmp 15) rfl b (x * 34) rfl X _ (by exact hrow) Pt.undP rfl hXs ?_; simp only[Act.put,aA])
   refine hR.mono ?_
   rintro e W3 (⟨rfl,hJ3⟩ | ⟨rfl,hJx3⟩)
   ·gi_wp2
    go_roundw
    case rel=>exact⟨x,by omega,by go_num,hJ3⟩
    case measure=>first | (simp[intOf]; done) | (simp[intOf]; omega)
   ·gi_wp2
    refine bodyPost_ret (results_none rfl _ _ _) rfl ?_
    exact⟨⟨_,rfl⟩,.inr hJx3⟩
def afterRd(W:World)(I Ix:World→Prop):Exit→Act→World→Prop
 | .normal,_,W'=>KeepsOthers W W'∧I W'
 | .ret,_,W'=>KeepsOthers W W'∧Ix W'
 | _,_,_=>False
theorem range_back{n:Nat}(hn:3≤n){g:Operand}{ps:Array Tmp}{assign body:Code}{R:Exit→Act→World→Prop}{a:Act}{w:World}{Bs b m cap:Nat}{Q:Nat→Pt.Pn}
  (hg:a.eval g=.func (.func 140) #[] #[.pointer (some ⟨Bs,0,none⟩)]) (hps:ps.size=2) (hm:m≤1000000) (hm0:1≤m)
  (I:Nat→World→Prop) (Ix:World→Prop)
  (hI:∀k W W',I k W→Ck W W'→(∀j,j < w.heap.size→W'.heap[j]?=W.heap[j]?)→I k W')
  (hIx:∀W W',Ix W→Ck W W'→(∀j,j < w.heap.size→W'.heap[j]?=W.heap[j]?)→Ix W')
  (hB:∀k W,I k W→Bk Bs b m cap Q W) (h0:I m w)
  (hround:∀l k W (K:Act→World→Prop),k < m→I (k+1) W→
   (∀a' W',KeepsOthers W W'→(∀W2,Ck W' W2→(∀j,j < w.heap.size→W2.heap[j]?=W'.heap[j]?)→body.wpIn (Fence.wide.inRound l) (n - 1 - 1) Tryz.prog (afterRd W2 (I k) Ix) a' W2)→K a' W')→
   assign.wpIn (Fence.wide.inRound l) (n - 1 - 1) Tryz.prog (Exit.then K (fun _ _ _=>False)) { tmps:=(ps.zip #[.int .i64 (k:Nat),.agg (Pt.pV (Q k)).toArray]).foldl (fun t (p,v)=>t.setIfInBounds p v) a.tmps,defers:=[] } W)
  (hdone:∀(D:Nat) (W:World),w.heap.size≤D→I 0 W→W.heap[D]?=some (.deferred (some []))→R .normal { a with defers:={ target:=.collected D,args:=#[] } :: a.defers } W)
  (hret:∀(D:Nat) (W:World),w.heap.size≤D→Ix W→W.heap[D]?=some (.deferred (some []))→Code.ret.wpIn Fence.wide n Tryz.prog R { a with defers:={ target:=.collected D,args:=#[] } :: a.defers } W) :
  (Code.rangeFunc g ps assign body).wpIn Fence.wide n Tryz.prog R a w:=by
 have put:∀{W:World} {o:Obj} (o':Obj) {s:Nat},W.heap[s]?=some o→o.isCells=false→w.heap.size≤s→Ck W (W.putObj s o')∧(∀j,j < w.heap.size→(W.putObj s o').heap[j]?=W.heap[j]?)∧(W.putObj s o').heap[s]?=some o'∧∀j,s≠j→(W.putObj s o').heap[j]?=W.heap[j]?:=fun {W o} o' {s} h1 h2 h3=>
  ⟨Ck.of (grownBy_putObj' W s o') (fun r e=>by cases e; exact⟨o,h1,h2⟩),fun j hj=>World.putObj_heap_other (by omega),World.putObj_heap_same (Array.getElem?_eq_some_iff.1 h1).1,fun j hj=>World.putObj_heap_other (Ne.symm hj)⟩
 refine wpIn_rangeFunc fun me hme=>?_
 obtain⟨lo,hlo⟩:∃lo:LoopState→Option Code→Loop,∀s c,lo s c={ state:=s,pending:=c,fn:=me,tmps:=a.tmps,params:=ps,assign,body,defers:=w.heap.size }:=⟨fun s c=>{ state:=s,pending:=c,fn:=me,tmps:=a.tmps,params:=ps,assign,body,defers:=w.heap.size },fun _ _=>rfl⟩
 have hbd:Below w.heap.size w ((w.alloc (.deferred (some []))).alloc (.loop (lo .ready none))):=((Below.refl _ w).alloc (Nat.le_refl _) _).alloc (by simp) _
 have hD1:((w.alloc (.deferred (some []))).alloc (.loop (lo .ready none))).heap[w.heap.size]?=some (.deferred (some [])):=(Below.heap_alloc _ _ _ (by simp)).trans (World.alloc_heap_new w _)
 have hL1:((w.alloc (.deferred (some []))).alloc (.loop (lo .ready none))).heap[w.heap.size+1]?=some (.loop (lo .ready none)):=by
  have:=World.alloc_heap_new (w.alloc (.deferred (some []))) (.loop (lo .ready none))
  rwa [World.size_alloc] at this
 have hI1:I m ((w.alloc (.deferred (some []))).alloc (.loop (lo .ready none))):=hI _ _ _ h0 ⟨hbd.os,hbd.tape,hbd.output,hbd.size,fun k o hk _=>(hbd.block k (Array.getElem?_eq_some_iff.1 hk).1).trans hk⟩ (fun j hj=>hbd.block j hj)
 refine⟨w.heap.size+1,[{ target:=.collected w.heap.size,args:=#[] }],(w.alloc (.deferred (some []))).alloc (.loop (lo .ready none)),{ target:=.fn (.func 140) #[.pointer (some ⟨Bs,0,none⟩)],args:=#[.func (.yield (w.heap.size+1)) #[] #[]] },(w.alloc (.deferred (some []))).alloc (.loop (lo .ready none)),140,#[.func (.yield (w.heap.size+1)) #[] #[],.pointer (some ⟨Bs,0,none⟩)],(w.alloc (.deferred (some []))).alloc (.loop (lo .ready none)),?_,?_,?_,?_,fun _=>by omega,?_⟩
 ·rw[hlo]
  exact run_enterLoop_outer _ _ _ _ _
 ·simp only[resolve,hg]
  simp[go_sem]
 ·intro f' hf'
  simp[Target.leads] at hf'
  subst hf'
  trivial
 ·have:=enters_of Tryz.func140 (by kernel_rfl) rfl
  have h2:=this #[.func (.yield (w.heap.size+1)) #[] #[],.pointer (some ⟨Bs,0,none⟩)] ((w.alloc (.deferred (some []))).alloc (.loop (lo .ready none)))
  simp[invoke,go_sem]
 generalize hW1:(w.alloc (.deferred (some []))).alloc (.loop (lo .ready none))=W1 at hbd hD1 hL1 hI1
 refine(backp2_in Fence.wide (n - 1) trivial rfl (by omega) (w.heap.size+1) Bs b m cap Q hm hm0
  (fun k W=>I k W∧W.heap[w.heap.size+1]?=some (.loop (lo .ready none))∧W.heap[w.heap.size]?=some (.deferred (some [])))
  (fun W=>Ix W∧W.heap[w.heap.size+1]?=some (.loop (lo .done (some .ret)))∧W.heap[w.heap.size]?=some (.deferred (some [])))
  (fun k W h=>hB k W h.1) ?_ W1 ⟨hI1,hL1,hD1⟩).mono ?_
 ·rintro k W hk ⟨hi,hl,hd⟩
  have hy:=run_yield (P:=Tryz.prog) (args:=#[.int .i64 (k:Nat),.agg (Pt.pV (Q k)).toArray]) hl (by rw[hlo]; simp[hps])
  rw[hlo] at hy
  refine⟨me,_,assign,body,hy,roundIn_of_wpIn hme (hround (w.heap.size+1) k W _ hk hi fun a' Wa hka hbody=>?_)⟩
  have hla:=hka.same _ _ hl rfl
  have hda:=hka.same _ _ hd rfl
  refine⟨_,run_beginRound hla (by rw[hlo]),?_⟩
  obtain⟨p1,p2,p3,p4⟩:=put (.loop { lo .ready none with state:=.busy }) hla rfl (by omega)
  refine wpIn_mono (hbody _ p1 p2) ?_
  rintro e a3 W3 hp
  have fin:∀(c:Option Code),KeepsOthers (Wa.putObj (w.heap.size+1) (.loop { lo .ready none with state:=.busy })) W3→W3.heap[w.heap.size+1]?=some (.loop { lo .ready none with state:=.busy })∧W3.heap[w.heap.size]?=some (.deferred (some []))∧
    (Instr.endRound (w.heap.size+1) c).run Tryz.prog W3=.ok (.bool c.isNone) (W3.putObj (w.heap.size+1) (.loop (lo (if c.isNone then .ready else .done) c))):=fun c hk3=>by
   have h1:=hk3.same _ _ p3 rfl
   have h2:=hk3.same _ _ ((p4 _ (by omega)).trans hda) rfl
   have h3:=run_endRound (P:=Tryz.prog) c h1
   rw[hlo] at h3 ⊢
   exact⟨by rw[hlo] at h1; exact h1,h2,by rw[hlo]; exact h3⟩
  cases e with
  | normal=>
   obtain⟨hk3,hi3⟩:=hp
   obtain⟨h1,h2,h3⟩:=fin none hk3
   obtain⟨r1,r2,r3,r4⟩:=put (.loop (lo .ready none)) h1 rfl (by omega)
   exact⟨_,_,h3,.inl ⟨rfl,hI _ _ _ hi3 r1 r2,r3,(r4 _ (by omega)).trans h2⟩⟩
  | ret=>
   obtain⟨hk3,hi3⟩:=hp
   obtain⟨h1,h2,h3⟩:=fin (some .ret) hk3
   obtain⟨r1,r2,r3,r4⟩:=put (.loop (lo .done (some .ret))) h1 rfl (by omega)
   exact⟨_,_,h3,.inr ⟨rfl,hIx _ _ hi3 r1 r2,r3,(r4 _ (by omega)).trans h2⟩⟩
  | exit id=>exact hp.elim
  | goto t=>exact hp.elim
  | panic ch=>exact hp.elim
  | outgrown=>exact hp.elim
 ·rintro e W2 ⟨⟨v,rfl⟩,⟨hi,hl,hd⟩ | ⟨hi,hl,hd⟩⟩
  ·obtain⟨r1,r2,_,r4⟩:=put (.loop { lo .ready none with state:=.exhausted }) hl rfl (by omega)
   exact⟨none,_,(by have:=run_endLoop (P:=Tryz.prog) hl (by rw[hlo]; simp); rw[this]; simp only[hlo]),hdone _ _ (Nat.le_refl _) (hI _ _ _ hi r1 r2) ((r4 _ (by omega)).trans hd)⟩
  ·obtain⟨r1,r2,_,r4⟩:=put (.loop { lo .done (some .ret) with state:=.exhausted }) hl rfl (by omega)
   exact⟨some .ret,_,(by have:=run_endLoop (P:=Tryz.prog) hl (by rw[hlo]; simp); rw[this]; simp only[hlo]),hret _ _ (Nat.le_refl _) (hIx _ _ hi r1 r2) ((r4 _ (by omega)).trans hd)⟩
end St
namespace St
open Go.RowKit Dk Gm Eqb Rm Di Vl Qv Sp
open Vm (HasVol vM)
section
variable {F:Fence}{n':Nat}{P:Program}
theorem wpListIn_store_mid{ops:Array Oper}{rest:List Oper}{o:Oper}{a:Act}{w:World}{Q:Exit→Act→World→Prop}(hgd:o.guard=none)(ty:TypeId)(x y:Operand)(ho:o.op=.store ty x y)
  (b off:Nat) (cells:Array Value) (hx:a.eval x=.pointer (some ⟨b,off,none⟩)) (hy:a.eval y=.agg cells)
  (ht:w.there b off cells.size) (hi:(P.info? ty).map (·.size)=some cells.size) (h1:cells.all (·.oneCell')=true)
  (h:wpListIn F n' P ops Q rest (a.put o.dst undef) (w.setCells b off cells.toList)):wpListIn F n' P ops Q (o :: rest) a w:=by
 refine wpListIn_plain hgd fun K hK=>?_
 unfold Oper.wpIn
 refine⟨?_,?_⟩
 ·simp[Oper.about,ho]
 ·rw[Oper.semAt_plain F _ _ (by rw[ho]; intro c hc'; cases hc')]
  unfold execOp
  simp only[ho,hx,hy,Instr.storeAt,Instr.sureAddr,Sem.run_bind,Sem.run_pure,Result.andThen_ok,run_storeVar_mid w b off ty cells ht hi h1]
  exact hK _ _ h
theorem wpIn_store_row{o:Oper}{a:Act}{w:World}{K:Act→World→Prop}{Q:Exit→Act→World→Prop}(ty:TypeId)(x y:Operand)(ho:o.op=.store ty x y)
  (g:Nat) (cells:Array Value) (hx:a.eval x=.pointer (some ⟨g,0,none⟩)) (hy:a.eval y=.agg cells)
  (t:TypeId) (old:Array Value) (hg:w.heap[g]?=some (.cells old t (0,0))) (hi:(P.info? ty).map (·.size)=some cells.size)
  (hold:old.size=cells.size) (h1:cells.all (·.oneCell')=true)
  (h:K (a.put o.dst undef) (w.setRow g cells)):o.wpIn F n' P a w K Q:=by
 unfold Oper.wpIn
 refine⟨?_,?_⟩
 ·simp[Oper.about,ho]
 ·rw[Oper.semAt_plain F _ _ (by rw[ho]; intro c hc'; cases hc')]
  unfold execOp
  simp only[ho,hx,hy,Instr.storeAt,Instr.sureAddr,Sem.run_bind,Sem.run_pure,Result.andThen_ok,run_storeVar_row w g t ty old cells hg hi hold h1]
  exact h
theorem wpIn_buildV{o:Oper}{a:Act}{w:World}{K:Act→World→Prop}{Q:Exit→Act→World→Prop}(t:TypeId)(parts:Array (Nat × Operand))(ho:o.op=.build t parts)
  (cells:Array Value) (hf:P.built t (parts.map fun(i,x)=>(i,a.eval x)).toList=some cells) (h:K (a.put o.dst (.agg cells)) w):o.wpIn F n' P a w K Q:=by
 unfold Oper.wpIn
 refine⟨?_,?_⟩
 ·simp[Oper.about,ho]
 ·rw[Oper.semAt_plain F _ _ (by rw[ho]; intro c hc'; cases hc')]
  unfold execOp
  simp only[ho,Sem.run_bind,run_build w t _ _ hf,Result.andThen_ok]
  exact h
end
theorem want_yes{o:Oper}{y:Nat→Option Bool}{A B:Prop}(hg:o.guard=none)(h:A):if Region.wanted o y=true then A else B:=by
 rw[if_pos (by simp[Region.wanted,hg])]
 exact h
theorem set3{w:World}{b:Nat}{R:Nat→Pt.Pn}{t:TypeId}(h:w.heap[b]?=some (.cells (Pt.f3 R).toArray t (0,0))){k:Nat}(hk:k < 3)(r:Pt.Pn) :
  (w.setCells b (34 * k) (Pt.pV r)).heap[b]?=some (.cells (Pt.f3 (Pt.upd R k r)).toArray t (0,0)):=by
 obtain⟨cur,h1,h2,_⟩:=blk_setCells (Pt.pV r) (34 * k) w _ h (by rw[Pt.pL,List.size_toArray,Pt.f3_length]; omega)
 have h3:=((Pt.R3.new h).store hk r).all
 rw[h1]
 have e:cur=(Pt.f3 (Pt.upd R k r)).toArray:=by
  refine Array.ext (by rw[h2,List.size_toArray,List.size_toArray,Pt.f3_length,Pt.f3_length]) fun i hi1 hi2=>?_
  have hi:i < (Pt.f3 (Pt.upd R k r)).length:=by simpa using hi2
  have:=h3 i _ (List.getElem?_eq_getElem hi)
  rw[cell_of_row _ _ _ _ _ _ h1,Nat.zero_add,Array.getElem?_eq_getElem hi1] at this
  simpa using this
 rw[e]
theorem grown_cells{w:World}{b:Nat}(o:Nat)(vs:List Value):w.grownBy (w.setCells b o vs) (some b):=by
 obtain⟨h1,h2,h3⟩:=flags_setCells b vs o w
 exact⟨h1,h2,h3,by rw[size_setCells]; exact Nat.le_refl _,fun k _ hk=>block_setCells b k (by simpa using hk) vs o w⟩
def eL(n b8 b9 b10 Bs F:Nat)(cap:Array Value)(p:Pt.Pn)(Q:Nat→Pt.Pn)(r6:Pt.Pn)(r7 e9:Int)(R:Nat→Pt.Pn):List (Nat × Array Value × TypeId):=
 [(n,(Pt.pV p).toArray,24),(n+1,#[.func (.func F) #[] cap],124),(n+1+1,(Pt.pV r6).toArray,24),(n+1+1+1,#[.int .i64 r7],48),
  (b8,(Pt.f3 Q).toArray,83),(b9,#[.int .i64 e9],48),(b10,(Pt.f3 R).toArray,83),(Bs,#[.slice (some ⟨b8,0,none⟩) 3 3],52)]
def eR(Q R:Nat→Pt.Pn)(k j:Nat):Pt.Pn:=if j < k then Q j else R j
theorem eR_3(Q R:Nat→Pt.Pn):Pt.f3 (eR Q R 3)=Pt.f3 Q:=Pt.f3_congr fun i hi=>by unfold eR; rw[if_pos hi]
theorem eR_0(Q R:Nat→Pt.Pn):eR Q R 0=R:=by funext j; unfold eR; rw[if_neg (by omega)]
theorem eR_s(Q R:Nat→Pt.Pn)(k:Nat):Pt.upd (eR Q R (k+1)) k (R k)=eR Q R k:=by
 funext j
 unfold Pt.upd eR
 by_cases e:j=k
 ·rw[if_pos e,if_neg (by omega),e]
 ·rw[if_neg e]
  by_cases e2:j < k
  ·rw[if_pos (by omega),if_pos e2]
  ·rw[if_neg (by omega),if_neg e2]
theorem cO{w:World}{b:Nat}{v:Value}{t:TypeId}(h:w.heap[b]?=some (.cells #[v] t (0,0))):w.cell? ⟨b,0,none⟩=some v:=by
 rw[cell_of_row _ _ _ _ _ _ h]
 rfl
section
variable {q:Qt}{w:World}{V:Pl}{wb:Nat}{gv:Value}{st:List Value}
def eI(w:World)(V:Pl)(wb:Nat)(gv:Value)(q:Qt)(st:List Value)(Xs:Nat→Dst)(fs:Nat→Nat→Int)(Gs:Nat→List Pt.Pn)(b8 b9 b10 Bs F:Nat)(cap:Array Value)(p:Pt.Pn)(Q R:Nat→Pt.Pn)(Er:Nat→Int)(k:Nat)(W:World):Prop:=
 (∀j,k≤j→j < 3→Er j=0)∧∃gv',Wt w V wb gv q (Xs k) (fs k) st gv' (Gs k) W∧Bx V wb gv' w.heap.size (eL w.heap.size b8 b9 b10 Bs F cap p Q Pt.pz 0 0 (eR Q R k)) W
def eX(w:World)(V:Pl)(wb:Nat)(gv:Value)(q:Qt)(st:List Value)(Xs:Nat→Dst)(fs:Nat→Nat→Int)(Gs:Nat→List Pt.Pn)(b8 b9 b10 Bs F:Nat)(cap:Array Value)(p:Pt.Pn)(Q R:Nat→Pt.Pn)(Er:Nat→Int)(W:World):Prop:=
 ∃k,k < 3∧(∀j,k < j→j < 3→Er j=0)∧Er k≠0∧∃gv',Wt w V wb gv q (Xs k) (fs k) st gv' (Gs k) W∧Bx V wb gv' w.heap.size (eL w.heap.size b8 b9 b10 Bs F cap p Q Pt.pz (Er k) (Er k) (eR Q R k)) W
variable {Xs:Nat→Dst}{fs:Nat→Nat→Int}{Gs:Nat→List Pt.Pn}{b8 b9 b10 Bs F:Nat}{cap:Array Value}{p:Pt.Pn}{Q R:Nat→Pt.Pn}{Er:Nat→Int}
theorem eI_recd{k n:Nat}(hn:w.heap.size≤n)(W W':World)(h:eI w V wb gv q st Xs fs Gs b8 b9 b10 Bs F cap p Q R Er k W)(hc:Ck W W')(hk:∀j,j < n→W'.heap[j]?=W.heap[j]?):eI w V wb gv q st Xs fs Gs b8 b9 b10 Bs F cap p Q R Er k W':=by
 obtain⟨h1,gv',h2,h3⟩:=h
 exact⟨h1,gv',h3.recd h2 hc fun j hj=>hk j (by omega)⟩
theorem eX_recd{n:Nat}(hn:w.heap.size≤n)(W W':World)(h:eX w V wb gv q st Xs fs Gs b8 b9 b10 Bs F cap p Q R Er W)(hc:Ck W W')(hk:∀j,j < n→W'.heap[j]?=W.heap[j]?):eX w V wb gv q st Xs fs Gs b8 b9 b10 Bs F cap p Q R Er W':=by
 obtain⟨k,h0,h1,h4,gv',h2,h3⟩:=h
 exact⟨k,h0,h1,h4,gv',h3.recd h2 hc fun j hj=>hk j (by omega)⟩
theorem eI_bk{k:Nat}{W:World}(h:eI w V wb gv q st Xs fs Gs b8 b9 b10 Bs F cap p Q R Er k W):Bk Bs b8 3 3 Q W:=by
 obtain⟨_,gv',_,h3⟩:=h
 obtain⟨_,_,h7⟩:=h3.i 7 _ rfl
 obtain⟨_,_,h4⟩:=h3.i 4 _ rfl
 exact⟨by rw[cell_of_row _ _ _ _ _ _ h7]; rfl,fun j hj=>f3_row h4 hj⟩
theorem results_pe{tmps:Array Value}{w:World}{B E:Nat}{p:Pt.Pn}{e:Int}{fn:Func}{s r:Nat}(hf:fn.results=#[.cell s 24,.cell r 48])(h4:tmps.getD s undef=.pointer (some ⟨B,0,none⟩))(h5:tmps.getD r undef=.pointer (some ⟨E,0,none⟩))
  (kV:w.heap[B]?=some (.cells (Pt.pV p).toArray 24 (0,0))) (kE:w.heap[E]?=some (.cells #[.int .i64 e] 48 (0,0))):(results fn tmps).run Tryz.prog w=.ok (.tuple #[.agg (Pt.pV p).toArray,.int .i64 e]) w:=by
 have h4':tmps[s]?.getD undef=.pointer (some ⟨B,0,none⟩):=by simpa using h4
 have h5':tmps[r]?.getD undef=.pointer (some ⟨E,0,none⟩):=by simpa using h5
 have hv:=run_loadVar_row (P:=Tryz.prog) w B 24 24 (Pt.pV p).toArray (0,0) _ kV Pt.undP rfl (Pt.sizeP' p)
 have he:(loadVar 48 ⟨E,0,none⟩).run Tryz.prog w=.ok (.int .i64 e) w:=by
  have hc:w.cell? ⟨E,0,none⟩=some (.int .i64 e):=by rw[cell_of_row _ _ _ _ _ _ kE]; rfl
  simp[loadVar,go_sem,hc]
 simp[results,hf,h4',h5',asAddr,hv,he]
theorem ko_row{W:World}{b:Nat}{c:Array Value}{t:TypeId}(h:W.heap[b]?=some (.cells c t (0,0)))(cs:Array Value):KeepsOthers W (W.setRow b cs):=
 KeepsOthers.of_grownBy (Di.gR (w:=W) (B:=b) cs) fun j o ej hj=>by
  cases ej
  rw[h] at hj
  cases hj
  rfl
theorem e_fin{X:Dst}{f:Nat→Int}{gv':Value}{G:List Pt.Pn}{W:World}{e9:Int}{M:List (Nat × Array Value × TypeId)}(hW:Wt w V wb gv q X f st gv' G W)(hB:Bx V wb gv' w.heap.size (eL w.heap.size b8 b9 b10 Bs F cap p Q Pt.pz 0 e9 R ++ M) W)(r6:Pt.Pn) :
  ∃W9,W9=W.setRow (w.heap.size+1+1) (Pt.pV r6).toArray∧W.heap[w.heap.size+1+1]?=some (.cells (Pt.pV Pt.pz).toArray 24 (0,0))∧W9.cell? ⟨w.heap.size+1+1+1,0,none⟩=some (.int .i64 0)∧W9.frozen? ⟨w.heap.size+1+1+1,0,none⟩=false∧W9.cell? ⟨b9,0,none⟩=some (.int .i64 e9)∧
   ∀e,Hid (KeepsOthers W (W9.setCell ⟨w.heap.size+1+1+1,0,none⟩ (.int .i64 e))∧Wt w V wb gv q X f st gv' G (W9.setCell ⟨w.heap.size+1+1+1,0,none⟩ (.int .i64 e))∧Bx V wb gv' w.heap.size (eL w.heap.size b8 b9 b10 Bs F cap p Q r6 e e9 R ++ M) (W9.setCell ⟨w.heap.size+1+1+1,0,none⟩ (.int .i64 e))):=by
 have r:=(hB.i 2 _ rfl).2.2
 obtain⟨h7,b7⟩:=hB.row hW (Nat.le_refl _) 2 (Pt.pV r6).toArray rfl (by decide) (by decide)
 refine⟨_,rfl,r,cO (b7.i 3 _ rfl).2.2,frozen_of_row _ _ 0 _ _ (b7.i 3 _ rfl).2.2,cO (b7.i 5 _ rfl).2.2,fun e=>?_⟩
 obtain⟨h9,b9'⟩:=b7.cell h7 (Nat.le_refl _) 3 (.int .i64 e) rfl (by decide) (by decide)
 exact Lib.hid ⟨(ko_row r _).trans (KeepsOthers.setCell _ _ _),h9,b9'⟩
theorem e_rec{X:Dst}{f:Nat→Int}{gv':Value}{G:List Pt.Pn}{W:World}{e9 e:Int}{r6:Pt.Pn}{M:List (Nat × Array Value × TypeId)}{D:Nat}(hW:Wt w V wb gv q X f st gv' G W)(hB:Bx V wb gv' w.heap.size (eL w.heap.size b8 b9 b10 Bs F cap p Q r6 e e9 R ++ M) W)(hD:w.heap.size≤D)(hK:W.heap[D]?=some (.deferred (some []))) :
  Wt w V wb gv q X f st gv' G (W.putObj D (.deferred none))∧(W.putObj D (.deferred none)).heap[w.heap.size+1+1]?=some (.cells (Pt.pV r6).toArray 24 (0,0))∧(W.putObj D (.deferred none)).heap[w.heap.size+1+1+1]?=some (.cells #[.int .i64 e] 48 (0,0)):=by
 have hg:=grownBy_putObj' W D (.deferred none)
 obtain⟨h1,h2⟩:=hB.recd hW (Ck.of hg fun r e=>by cases e; exact⟨_,hK,rfl⟩) fun j hj=>hg.block j (by have:=hW.sz; omega) (fun e=>by injection e with e; omega)
 exact⟨h1,(h2.i 2 _ rfl).2.2,(h2.i 3 _ rfl).2.2⟩
end
end St
end Go.Proofs.YteaocagepfgfnaaGreatDoor
