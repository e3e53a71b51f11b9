import Derived.Test.YteaocagepfgfnaaGreatDoorRows
import Derived.WalkKit
import Derived.Handy
import Derived.Lib.Hide
import Derived.Laws.AppendOwnNone
import Derived.Deep.MidRow
import Derived.BigQuiet
import Derived.Deep.QuietTactic
import Derived.Test.YteaocagepfgfnaaGreatDoorPJWd
import Derived.Test.YteaocagepfgfnaaGreatDoorPJSh
import Derived.Maps.OwnSet
import Derived.Maps.Views
set_option maxRecDepth 100000
set_option maxHeartbeats 8000000
namespace Go.Proofs.YteaocagepfgfnaaGreatDoor
section
open Go.RowKit
structure Pl where
 b:Nat
 pre:List Value
 post:List Value
 t:TypeId
instance:Coe Pl Nat:=⟨Pl.b⟩
namespace Pl
def o(g:Pl):Nat:=g.pre.length
def cs(g:Pl)(l:List Value):Array Value:=(g.pre ++ (l ++ g.post)).toArray
def At(g:Pl)(w:World)(l:List Value):Prop:=w.heap[g.b]?=some (.cells (g.cs l) g.t (0,0))
theorem cs_get(g:Pl){l:List Value}{j:Nat}(h:j < l.length):(g.cs l)[g.o+j]?=l[j]?:=by
 unfold cs o
 rw[List.getElem?_toArray,List.getElem?_append_right (by omega),Nat.add_sub_cancel_left,List.getElem?_append_left h]
theorem cs_set(g:Pl){l:List Value}{j:Nat}(h:j < l.length)(u:Value):(g.cs l).setIfInBounds (g.o+j) u=g.cs (l.set j u):=by
 unfold cs o
 rw[List.setIfInBounds_toArray,List.set_append_right _ _ (by omega),Nat.add_sub_cancel_left,List.set_append_left _ _ h]
section
variable {g:Pl}{w w':World}{l:List Value}
theorem At.cell(h:g.At w l){j:Nat}(hj:j < l.length):w.cell? ⟨g.b,g.o+j,none⟩=l[j]?:=by
 rw[cell_of_row w g.b _ _ _ _ h,g.cs_get hj]
theorem At.fr(h:g.At w l)(j:Nat):w.frozen? ⟨g.b,j,none⟩=false:=frozen_of_row w g.b j _ _ h
theorem At.lt(h:g.At w l):g.b < w.heap.size:=(Array.getElem?_eq_some_iff.1 h).1
theorem At.block(h:g.At w l)(hb:w'.heap[g.b]?=w.heap[g.b]?):g.At w' l:=hb.trans h
theorem At.below(h:g.At w l)(hb:Below w.heap.size w w'):g.At w' l:=h.block (hb.block g.b h.lt)
theorem At.set(h:g.At w l){j:Nat}(hj:j < l.length)(u:Value):g.At (w.setCell ⟨g.b,g.o+j,none⟩ u) (l.set j u):=by
 unfold At
 rw[heap_setCell_same w g.b _ _ _ u h,g.cs_set hj]
end
def NoB(g:Pl):Prop:=∀x ∈ g.pre ++ g.post,∀z,x≠.int .u8 z
def hd(v:Pl)(l:List Value):Pl:=⟨v.b,v.pre,l ++ v.post,v.t⟩
def tl(v:Pl)(l:List Value):Pl:=⟨v.b,v.pre ++ l,v.post,v.t⟩
theorem cs_hd(v:Pl)(l k:List Value):(v.hd l).cs k=v.cs (k ++ l):=by simp[cs,hd]
theorem cs_tl(v:Pl)(l k:List Value):(v.tl l).cs k=v.cs (l ++ k):=by simp[cs,tl]
theorem at_hd{v:Pl}{w:World}{l k:List Value}:(v.hd l).At w k↔v.At w (k ++ l):=by
 unfold At
 rw[cs_hd]
 rfl
theorem at_tl{v:Pl}{w:World}{l k:List Value}:(v.tl l).At w k↔v.At w (l ++ k):=by
 unfold At
 rw[cs_tl]
 rfl
theorem tl_o(v:Pl)(l:List Value):(v.tl l).o=v.o+l.length:=by simp[o,tl]
def own(b:Nat)(t:TypeId):Pl:=⟨b,[],[],t⟩
theorem own_noB(b:Nat)(t:TypeId):(own b t).NoB:=by simp[NoB,own]
end Pl
end
namespace Dk
open Go.RowKit
def bl(f:Nat→Int):List Value:=(List.range 128).map fun j=>.int .u8 (f j)
structure Sec where
 data:Nat→Int
 noRead:Bool
 noWrite:Bool
structure Wr where
 place:Int
 data:Nat→Int
def secV(s:Sec):List Value:=bl s.data ++ [.bool s.noRead,.bool s.noWrite]
def wrV(x:Wr):List Value:=.int .i64 x.place :: bl x.data
theorem bL(f:Nat→Int):(bl f).length=128:=by simp[bl]
theorem secV_length(s:Sec):(secV s).length=130:=by simp[secV,bL]
theorem wrV_length(x:Wr):(wrV x).length=129:=by simp[wrV,bL]
theorem wrV_asize(x:Wr):(wrV x).toArray.size=129:=by rw[List.size_toArray,wrV_length]
theorem bl_get(f:Nat→Int){j:Nat}(h:j < 128):(bl f)[j]?=some (.int .u8 (f j)):=by simp[bl,h]
theorem bl_one(f:Nat→Int):∀u ∈ bl f,u.oneCell'=true:=by
 intro u hu
 simp only[bl,List.mem_map] at hu
 obtain⟨j,_,rfl⟩:=hu
 rfl
theorem secV_one(s:Sec):∀u ∈ secV s,u.oneCell'=true:=by
 intro u hu
 simp only[secV,List.mem_append,List.mem_cons,List.not_mem_nil,or_false] at hu
 rcases hu with h | h | h
 ·exact bl_one _ u h
 ·subst h; rfl
 ·subst h; rfl
theorem wrV_one(x:Wr):∀u ∈ wrV x,u.oneCell'=true:=by
 intro u hu
 simp only[wrV,List.mem_cons] at hu
 rcases hu with h | h
 ·subst h; rfl
 ·exact bl_one _ u h
theorem secV_data(s:Sec){j:Nat}(h:j < 128):(secV s)[j]?=some (.int .u8 (s.data j)):=by
 unfold secV
 rw[List.getElem?_append_left (by rw[bL]; exact h)]
 exact bl_get _ h
theorem secV_read(s:Sec):(secV s)[128]?=some (.bool s.noRead):=by
 unfold secV
 rw[List.getElem?_append_right (by rw[bL]; exact Nat.le_refl _),bL]
 rfl
theorem secV_write(s:Sec):(secV s)[129]?=some (.bool s.noWrite):=by
 unfold secV
 rw[List.getElem?_append_right (by rw[bL]; omega),bL]
 rfl
theorem wrV_data(x:Wr){j:Nat}(h:j < 128):(wrV x)[1+j]?=some (.int .u8 (x.data j)):=by
 unfold wrV
 rw[Nat.add_comm 1 j]
 exact bl_get _ h
def flat(T:Nat→List Value)(n:Nat):List Value:=(List.range n).flatMap T
theorem flat_succ(T:Nat→List Value)(n:Nat):flat T (n+1)=flat T n ++ T n:=by simp[flat,List.range_succ,List.flatMap_append]
theorem flat_length{T:Nat→List Value}{k n:Nat}(hk:∀i,i < n→(T i).length=k):(flat T n).length=n * k:=by
 induction n with
 | zero=>simp[flat]
 | succ n ih=>rw[flat_succ,List.length_append,ih (fun i hi=>hk i (by omega)),hk n (by omega),Nat.succ_mul]
theorem flat_get{T:Nat→List Value}{k n i r:Nat}{v:Value}(hk:∀i,i < n→(T i).length=k)(hi:i < n)(hv:(T i)[r]?=some v):(flat T n)[i * k+r]?=some v:=by
 induction n with
 | zero=>omega
 | succ n ih=>
  rw[flat_succ]
  have hl:=flat_length (T:=T) (n:=n) (fun i hi=>hk i (by omega))
  have hr:r < k:=by
   have:=(List.getElem?_eq_some_iff.1 hv).1
   rwa [hk i hi] at this
  by_cases e:i < n
  ·have hb:(i+1) * k≤n * k:=Nat.mul_le_mul_right k e
   rw[Nat.succ_mul] at hb
   rw[List.getElem?_append_left (by omega)]
   exact ih (fun i hi=>hk i (by omega)) e
  ·obtain rfl:i=n:=by omega
   rw[List.getElem?_append_right (by omega),hl,Nat.add_sub_cancel_left]
   exact hv
theorem flat_inv{T:Nat→List Value}{k n j:Nat}{v:Value}(hk:∀i,i < n→(T i).length=k)(hv:(flat T n)[j]?=some v):∃i r,i < n∧r < k∧j=i * k+r∧(T i)[r]?=some v:=by
 induction n with
 | zero=>simp[flat] at hv
 | succ n ih=>
  have hl:=flat_length (T:=T) (n:=n) (fun i hi=>hk i (by omega))
  rw[flat_succ] at hv
  by_cases e:j < n * k
  ·rw[List.getElem?_append_left (by omega)] at hv
   obtain⟨i,r,h1,h2,h3,h4⟩:=ih (fun i hi=>hk i (by omega)) hv
   exact⟨i,r,by omega,h2,h3,h4⟩
  ·rw[List.getElem?_append_right (by omega),hl] at hv
   have hr:j - n * k < k:=by
    have:=(List.getElem?_eq_some_iff.1 hv).1
    rwa [hk n (by omega)] at this
   exact⟨n,j - n * k,by omega,hr,by omega,hv⟩
theorem flat_one{T:Nat→List Value}{n:Nat}(h:∀i,i < n→∀u ∈ T i,u.oneCell'=true):∀u ∈ flat T n,u.oneCell'=true:=by
 intro u hu
 simp only[flat,List.mem_flatMap,List.mem_range] at hu
 obtain⟨i,hi,hu⟩:=hu
 exact h i hi u hu
theorem flat_congr{T T':Nat→List Value}{n:Nat}(h:∀i,i < n→T i=T' i):flat T n=flat T' n:=by
 induction n with
 | zero=>rfl
 | succ n ih=>rw[flat_succ,flat_succ,ih (fun i hi=>h i (by omega)),h n (by omega)]
structure Lay(w:World)(B g:Nat)(ao:Option Addr)(n cap k:Nat)(T:Nat→List Value):Prop where
 room:n≤cap
 nil:ao=none→cap=0
 rows:n=0∨∃b off,ao=some ⟨b,off,none⟩∧b < B∧b≠g∧∀i,i < n→w.rangeAt b (off+i * k) (T i)
theorem Lay.keep{w w':World}{B g:Nat}{ao:Option Addr}{n cap k:Nat}{T:Nat→List Value}(h:Lay w B g ao n cap k T)(hk:∀b,b < B→b≠g→w'.heap[b]?=w.heap[b]?):Lay w' B g ao n cap k T:=
 ⟨h.room,h.nil,h.rows.imp id fun⟨b,off,e,hb,hne,hr⟩=>⟨b,off,e,hb,hne,fun i hi j v hv=>(World.cell?_of_block (w:=w) (hk b hb hne)).trans (hr i hi j v hv)⟩⟩
theorem Lay.below{w w':World}{B g:Nat}{ao:Option Addr}{n cap k:Nat}{T:Nat→List Value}(h:Lay w B g ao n cap k T)(hb:Below B w w'):Lay w' B g ao n cap k T:=h.keep fun b hB _=>hb.block b hB
theorem Lay.grown{w w':World}{B g:Nat}{ao:Option Addr}{n cap k:Nat}{T:Nat→List Value}(h:Lay w B g ao n cap k T)(hg:w.grownBy w' (some g))(hB:B≤w.heap.size):Lay w' B g ao n cap k T:=
 h.keep fun b hb hne=>hg.block b (by omega) (by simpa using hne)
theorem Lay.more{w:World}{B B' g:Nat}{ao:Option Addr}{n cap k:Nat}{T:Nat→List Value}(h:Lay w B g ao n cap k T)(hB:B≤B'):Lay w B' g ao n cap k T:=
 ⟨h.room,h.nil,h.rows.imp id fun⟨b,off,e,hb,hne,hr⟩=>⟨b,off,e,by omega,hne,hr⟩⟩
theorem Lay.other{w:World}{B g g':Nat}{ao:Option Addr}{n cap k:Nat}{T:Nat→List Value}(h:Lay w B g ao n cap k T)(hg:B≤g'):Lay w B g' ao n cap k T:=
 ⟨h.room,h.nil,h.rows.imp id fun⟨b,off,e,hb,hne,hr⟩=>⟨b,off,e,hb,by omega,hr⟩⟩
theorem Lay.empty(w:World)(B g _cap:Nat)(k:Nat)(T:Nat→List Value):Lay w B g none 0 0 k T:=⟨Nat.le_refl _,fun _=>rfl,.inl rfl⟩
theorem lay_own{w:World}{base g:Nat}{e:TypeId}{ao:Option Addr}{n cap k:Nat}{T:Nat→List Value}(hk:∀i,i < n→(T i).length=k)(h:w.ownsRow base e k (.slice ao n cap) n (flat T n))(hg:g < base∨w.heap.size≤g):Lay w w.heap.size g ao n cap k T:=by
 have hlt:=h.lt
 rcases h.2 with ⟨hv,hn⟩ | ⟨b,cap',cur,hv,hb,hc,hnc,_,hcs,ht⟩
 ·injection hv with h1 h2 h3
  exact⟨by omega,fun _=>h3,.inl hn⟩
 ·injection hv with h1 h2 h3
  subst h1 h3
  have hbl:=(hlt b rfl).2
  refine⟨hnc,fun e=>(by cases e),.inr ⟨b,0,rfl,hbl,by omega,fun i hi j v hv=>?_⟩⟩
  rw[Nat.zero_add,cell_of_row w b _ cur _ _ hc]
  have e1:=flat_get hk hi hv
  have hj:i * k+j < n * k:=by
   have:=(List.getElem?_eq_some_iff.1 e1).1
   rwa [flat_length hk] at this
  rw[←ht] at e1
  simpa[List.getElem?_take,hj] using e1
def Ty(w:World)(n:Nat)(ao:Option Addr)(t:TypeId):Prop:=n=0∨∀b off s,ao=some ⟨b,off,s⟩→∃cur,w.heap[b]?=some (.cells cur t (0,0))
theorem Ty.zero(w:World)(ao:Option Addr)(t:TypeId):Ty w 0 ao t:=.inl rfl
theorem Ty.own{w:World}{base:Nat}{e:TypeId}{ao:Option Addr}{n cap k:Nat}{xs:List Value}(h:w.ownsRow base e k (.slice ao n cap) n xs):Ty w n ao e:=by
 rcases h.2 with ⟨_,hn⟩ | ⟨b,cap',cur,hv,_,hc,_⟩
 ·exact .inl hn
 ·refine .inr fun q off s e=>?_
  injection hv with h1
  rw[h1] at e
  injection e with e
  injection e with e1
  subst e1
  exact⟨cur,hc⟩
theorem Ty.keep{w w':World}{B g:Nat}{ao:Option Addr}{n cap k:Nat}{T:Nat→List Value}{t:TypeId}(h:Ty w n ao t)(hl:Lay w B g ao n cap k T)(hk:∀b,b < B→b≠g→w'.heap[b]?=w.heap[b]?):Ty w' n ao t:=by
 rcases h with h | h
 ·exact .inl h
 ·rcases hl.rows with h0 | ⟨b,off,e,hb,hne,_⟩
  ·exact .inl h0
  ·refine .inr fun q o s e'=>?_
   obtain⟨cur,hc⟩:=h q o s e'
   rw[e] at e'
   injection e' with e'
   injection e' with e1
   subst e1
   exact⟨cur,(hk b hb hne).trans hc⟩
theorem Ty.below{w w':World}{B g:Nat}{ao:Option Addr}{n cap k:Nat}{T:Nat→List Value}{t:TypeId}(h:Ty w n ao t)(hl:Lay w B g ao n cap k T)(hb:Below B w w'):Ty w' n ao t:=h.keep hl fun b hB _=>hb.block b hB
theorem Ty.grown{w w':World}{B g:Nat}{ao:Option Addr}{n cap k:Nat}{T:Nat→List Value}{t:TypeId}(h:Ty w n ao t)(hl:Lay w B g ao n cap k T)(hg:w.grownBy w' (some g))(hB:B≤w.heap.size):Ty w' n ao t:=
 h.keep hl fun b hb hne=>hg.block b (by omega) (by simpa using hne)
theorem Ty.setCell{w:World}{n:Nat}{ao:Option Addr}{t:TypeId}(h:Ty w n ao t)(b off:Nat)(v:Value):Ty (w.setCell ⟨b,off,none⟩ v) n ao t:=by
 rcases h with h | h
 ·exact .inl h
 ·refine .inr fun q o s e=>?_
  obtain⟨cur,hc⟩:=h q o s e
  by_cases hq:q=b
  ·subst hq
   exact⟨_,heap_setCell_same w q off _ _ v hc⟩
  ·exact⟨cur,(Below.heap_setCell _ _ _ _ hq).trans hc⟩
theorem Ty.ne{w:World}{n:Nat}{ao:Option Addr}{t t':TypeId}(h:Ty w n ao t){b:Nat}{cur:Array Value}{fr:Nat × Nat}(hb:w.heap[b]?=some (.cells cur t' fr))(ht:t'≠t):n=0∨∀q o s,ao=some ⟨q,o,s⟩→q≠b:=by
 rcases h with h | h
 ·exact .inl h
 ·refine .inr fun q o s e hq=>?_
  obtain⟨cur',hc⟩:=h q o s e
  rw[hq,hb] at hc
  injection hc with hc
  injection hc with _ hc
  exact ht hc
def sec0:Sec:=⟨fun _=>0,false,false⟩
def wr0:Wr:=⟨0,fun _=>0⟩
theorem info_sec:(Tryz.prog.info? 130).map (fun i=>(i.zero,i.size,i.bytes))=some (some (.agg (secV sec0).toArray),130,130):=by kernel_rfl
theorem info_wr:(Tryz.prog.info? 108).map (fun i=>(i.zero,i.size,i.bytes))=some (some (.agg (wrV wr0).toArray),129,136):=by kernel_rfl
theorem sB(f:Nat→Int):(Tryz.prog.info? 47).map (·.size)=some (bl f).length:=by rw[bL]; kernel_rfl
theorem size_wr(x:Wr):(Tryz.prog.info? 108).map (·.size)=some (wrV x).length:=by rw[wrV_length]; kernel_rfl
theorem slice_sec:Tryz.prog.underlying 31=some (.slice 130):=by kernel_rfl
theorem slice_wr:Tryz.prog.underlying 32=some (.slice 108):=by kernel_rfl
theorem append_lay{w:World}{ops:Array Oper}{rest:List Oper}{o:Oper}{a:Act}{Q:Exit→Act→World→Prop}(hgd:o.guard=none)(s x:Operand)(t e:TypeId)(i:TypeInfo)(z:Value)(k bytes:Nat)
  (ho:o.op=.call { callee:=.builtin .append,args:=#[s,x],argTypes:=#[t,t] }) (ht:Tryz.prog.underlying t=some (.slice e)) (hi:Tryz.prog.info? e=some i) (hz:i.zero=some z) (hs1:i.size=k) (hs2:i.bytes=bytes) (hzs:z.cells.size=k) (hk0:0 < k)
  (base:Nat) (v:Value) (ys:List Value) (m:Nat) (hs:a.eval s=v) (hown:w.ownsRow base e k v m ys)
  (B g:Nat) (ao:Option Addr) (n cap:Nat) (T:Nat→List Value) (hx:a.eval x=.slice ao n cap) (hl:Lay w B g ao n cap k T) (hk:∀i,i < n→(T i).length=k) (h1:∀i,i < n→∀u ∈ T i,u.oneCell'=true)
  (hm:m+n≤maxLen) (hby:(m+n) * bytes≤140737488355328) (hbase:base≤w.heap.size)
  (h:∀v' w',w'.ownsRow base e k v' (m+n) (ys ++ flat T n)→w.grownBy w' v.ownBlock→wpList Tryz.prog ops Q rest (a.put o.dst v') w'):wpList Tryz.prog ops Q (o :: rest) a w:=by
 cases ao with
 | none=>
  have hc:=hl.nil rfl
  have hn:n=0:=by have:=hl.room; omega
  subst hn hc
  exact wpList_append_own_none hgd s x t ho base e i k ht hi v m ys hs hown hx (h v w (by simpa[flat] using hown) (World.grownBy.refl _ _))
 | some ad=>
  refine wpList_append_own w hgd s x t ho base e i z k bytes ht hi hz hs1 hs2 hzs hk0 v m ys hs hown ad n cap (flat T n) hx (flat_length hk) ?_ (flat_one h1) hm hby hbase ?_
  ·intro j u hu
   obtain⟨i,r,hi,hr,rfl,hv⟩:=flat_inv hk hu
   obtain⟨b,off,e1,_,_,hrow⟩:=hl.rows.resolve_left (by omega)
   injection e1 with e1
   subst e1
   rw[Addr.add_mid,←Nat.add_assoc]
   exact hrow i hi r u hv
  ·intro v' w' h1 h2 _
   exact h v' w' h1 h2
end Dk
namespace Rm
open Go.RowKit Byt
def halfN(s:Int):Int:=if s < 28∨4096 < s∨s % 2≠0 then 0 else (s - 20) / 2
theorem halfN_bd(s:Int):0≤halfN s∧halfN s≤2038∧(halfN s≠0→4≤halfN s∧s=2 * halfN s+20):=by
 unfold halfN
 split
 ·omega
 ·omega
def lentB(h n:Int):Bool:=decide (0≤n) && decide (n < 2 * h) && decide (2≤n % h)
theorem lent_bd{h n:Int}(hl:lentB h n=true):0≤n∧n < 2 * h∧2≤n % h:=by simpa[lentB,and_assoc] using hl
def pairB(h s f t:Int):Bool:=lentB h f && decide (2 * h≤t) && decide (t < s)
def pairsB(h s:Int)(F T:Nat→Int):Nat→Bool
 | 0=>true
 | j+1=>pairsB h s F T j && pairB h s (F j) (T j)
def noneB(F:Nat→Int)(x:Int):Nat→Bool
 | 0=>true
 | j+1=>noneB F x j && decide (F j≠x)
def distB(F:Nat→Int):Nat→Bool
 | 0=>true
 | j+1=>distB F j && noneB F (F j) j
theorem noneB_iff{F:Nat→Int}{x:Int}:∀{n},noneB F x n=true↔∀i,i < n→F i≠x
 | 0=>by simp[noneB]
 | n+1=>by
  simp only[noneB,Bool.and_eq_true,decide_eq_true_eq,noneB_iff (n:=n)]
  constructor
  ·rintro⟨h1,h2⟩ i hi
   by_cases e:i=n
   ·subst e; exact h2
   ·exact h1 i (by omega)
  ·intro h
   exact⟨fun i hi=>h i (by omega),h n (by omega)⟩
theorem distB_iff{F:Nat→Int}:∀{n},distB F n=true↔∀i k,i < n→k < n→i≠k→F i≠F k
 | 0=>by simp[distB]
 | n+1=>by
  simp only[distB,Bool.and_eq_true,distB_iff (n:=n),noneB_iff]
  constructor
  ·rintro⟨h1,h2⟩ i k hi hk hik
   by_cases e:i=n
   ·subst e; exact fun h=>h2 k (by omega) h.symm
   ·by_cases e2:k=n
    ·subst e2; exact h2 i (by omega)
    ·exact h1 i k (by omega) (by omega) hik
  ·intro h
   exact⟨fun i k hi hk=>h i k (by omega) (by omega),fun i hi=>h i n (by omega) (by omega) (by omega)⟩
theorem pairsB_iff{h s:Int}{F T:Nat→Int}:∀{n},pairsB h s F T n=true↔∀i,i < n→pairB h s (F i) (T i)=true
 | 0=>by simp[pairsB]
 | n+1=>by
  simp only[pairsB,Bool.and_eq_true,pairsB_iff (n:=n)]
  constructor
  ·rintro⟨h1,h2⟩ i hi
   by_cases e:i=n
   ·subst e; exact h2
   ·exact h1 i (by omega)
  ·intro h
   exact⟨fun i hi=>h i (by omega),h n (by omega)⟩
def rightB(s gen:Int)(n:Nat)(F T:Nat→Int):Bool:=
 decide (halfN s≠0) && decide (0≤gen) && decide (gen≤4611686018427387904) && decide (n≤20) && pairsB (halfN s) s F T n && distB F n && distB T n
theorem right_parts{s gen:Int}{n:Nat}{F T:Nat→Int}(h:rightB s gen n F T=true):halfN s≠0∧0≤gen∧gen≤4611686018427387904∧n≤20∧pairsB (halfN s) s F T n=true∧distB F n=true∧distB T n=true:=by
 simpa[rightB,and_assoc] using h
def findI(F:Nat→Int)(x:Int):Nat→Int
 | 0=>-1
 | j+1=>if 0≤findI F x j then findI F x j else if F j=x then j else -1
theorem find_none{F:Nat→Int}{x:Int}:∀{n},noneB F x n=true→findI F x n = -1
 | 0,_=>rfl
 | n+1,h=>by
  simp only[noneB,Bool.and_eq_true,decide_eq_true_eq] at h
  simp only[findI,find_none h.1]
  rw[if_neg (by omega),if_neg h.2]
theorem find_at{F:Nat→Int}{x:Int}{j:Nat}(h0:noneB F x j=true)(h1:F j=x):∀{n},j < n→findI F x n=j
 | 0,h=>by omega
 | n+1,h=>by
  by_cases e:j=n
  ·subst e
   simp only[findI,find_none h0]
   rw[if_neg (by omega),if_pos h1]
  ·simp only[findI,find_at h0 h1 (n:=n) (by omega)]
   rw[if_pos (by omega)]
theorem find_bd(F:Nat→Int)(x:Int):∀n:Nat,-1≤findI F x n∧findI F x n < n∧(0≤findI F x n→F (findI F x n).toNat=x)
 | 0=>by simp[findI]
 | n+1=>by
  obtain⟨h1,h2,h3⟩:=find_bd F x n
  simp only[findI]
  split
  ·exact⟨h1,by omega,h3⟩
  ·split
   ·rename_i e
    exact⟨by omega,by omega,fun _=>by rw[Int.toNat_natCast]; exact e⟩
   ·exact⟨by omega,by omega,by omega⟩
def atT(F T:Nat→Int)(n:Nat)(x:Int):Int:=if 0≤findI F x n then T (findI F x n).toNat else x
def head(gen:Int)(n:Nat):Nat→Int:=put (Wd.putF 128 1 8 gen (put (fun _=>0) 0 109)) 9 n
def pairsD(F T:Nat→Int)(D:Nat→Int):Nat→Nat→Int
 | 0=>D
 | j+1=>Wd.putF 128 (12+4 * j) 2 (T j) (Wd.putF 128 (10+4 * j) 2 (F j) (pairsD F T D j))
def tabD(gen:Int)(n:Nat)(F T:Nat→Int):Nat→Int:=pairsD F T (head gen n) n
def sealD(D:Nat→Int):Nat→Int:=mix D 96 32 (Sha.sumB (Sha.sumS (tab 96 D)))
def putV(s gen:Int)(n:Nat)(F T:Nat→Int):Nat→Int:=if rightB s gen n F T then sealD (tabD gen n F T) else fun _=>0
def putEr(s gen:Int)(n:Nat)(F T:Nat→Int):Int:=if rightB s gen n F T then 0 else 1
end Rm
namespace Rm
open Go.RowKit
theorem half_any(s:Int)(w:World):Calls Tryz.prog 116 #[.int .i64 s] w fun e w'=>e=.returned (.int .i64 (halfN s))∧Below w.heap.size w w':=by
 by_cases h1:s < 28
 ·have hv:halfN s=0:=by unfold halfN; rw[if_pos (.inl h1)]
  rw[hv]
  clear hv
  go_enter Tryz.func116,Tryz.ntmps116
  go_wp2_with fail
  go_ret
  exact⟨rfl,Below.refl _ _⟩
 by_cases h2:4096 < s
 ·have hv:halfN s=0:=by unfold halfN; rw[if_pos (.inr (.inl h2))]
  rw[hv]
  clear hv
  go_enter Tryz.func116,Tryz.ntmps116
  go_wp2_with fail
  go_ret
  exact⟨rfl,Below.refl _ _⟩
 have h0:0≤s:=by omega
 by_cases h3:s % 2=0
 ·have hv:halfN s=(s - 20) / 2:=by unfold halfN; rw[if_neg (by omega)]
  have h3':(s % 2 == 0)=true:=by simpa using h3
  have h3'':(s % 2 != 0)=false:=by simpa using h3
  rw[hv]
  clear hv h3
  go_enter Tryz.func116,Tryz.ntmps116
  go_wp2_with fail
  go_ret
  exact⟨rfl,Below.refl _ _⟩
 ·have hv:halfN s=0:=by unfold halfN; rw[if_pos (.inr (.inr h3))]
  have h3':(s % 2 == 0)=false:=by simpa using h3
  have h3'':(s % 2 != 0)=true:=by simpa using h3
  rw[hv]
  clear hv h3
  go_enter Tryz.func116,Tryz.ntmps116
  go_wp2_with fail
  go_ret
  exact⟨rfl,Below.refl _ _⟩
theorem lent_any(h n:Int)(w:World)(h0:0≤h)(h1:h≤4096):Calls Tryz.prog 145 #[.int .i64 h,.int .i64 n] w fun e w'=>e=.returned (.bool (lentB h n))∧Below w.heap.size w w':=by
 by_cases n0:n < 0
 ·have hv:lentB h n=false:=by unfold lentB; rw[decide_eq_false (by omega)]; rfl
  rw[hv]
  clear hv
  have n0':¬ 0≤n:=by omega
  go_enter Tryz.func145,Tryz.ntmps145
  go_wp2_with fail
  go_ret
  exact⟨rfl,Below.refl _ _⟩
 have n0':0≤n:=by omega
 by_cases n1:n < 2 * h
 ·have hp:0 < h:=by omega
  have hv:lentB h n=decide (2≤n % h):=by unfold lentB; rw[decide_eq_true n0',decide_eq_true n1]; rfl
  rw[hv]
  clear hv
  have hm:0≤n % h:=Int.emod_nonneg _ (by omega)
  go_enter Tryz.func145,Tryz.ntmps145
  go_wp2_with fail
  go_ret
  exact⟨rfl,Below.refl _ _⟩
 ·have hv:lentB h n=false:=by unfold lentB; rw[decide_eq_false (p:=n < 2 * h) n1]; simp
  rw[hv]
  clear hv
  go_enter Tryz.func145,Tryz.ntmps145
  go_wp2_with fail
  go_ret
  exact⟨rfl,Below.refl _ _⟩
theorem tableAt_any(h gen c:Int)(w:World)(h0:0≤h)(h1:h≤4096)(g0:0≤gen)(c0:0≤c)(c1:c≤1):Calls Tryz.prog 93 #[.int .i64 h,.int .i64 gen,.int .i64 c] w fun e w'=>e=.returned (.int .i64 (c * h+gen % 2))∧Below w.heap.size w w':=by
 have hc:c=0∨c=1:=by omega
 rcases hc with rfl | rfl
 all_goals
  go_enter Tryz.func93,Tryz.ntmps93
  go_wp2_with fail
  go_ret
  exact⟨by simp,Below.refl _ _⟩
end Rm
namespace Rm
open Go.RowKit Go.Maps Go.WideShapes
abbrev DU:=DataW Unit
def unitD:DU:=.agg []
def keysL(F:Nat→Int)(n:Nat):List Lit:=(List.range n).map fun i=>Lit.int .i64 (F i)
theorem keysL_succ(F:Nat→Int)(n:Nat):keysL F (n+1)=keysL F n ++ [Lit.int .i64 (F n)]:=by simp[keysL,List.range_succ]
theorem keysL_key(F:Nat→Int)(n:Nat):∀x ∈ keysL F n,WideAt.IsKeyLit x:=by
 intro x hx
 simp only[keysL,List.mem_map] at hx
 obtain⟨i,_,rfl⟩:=hx
 trivial
def setD(F:Nat→Int)(n:Nat):DU:=setOf unitD (keysL F n)
theorem setD_succ(F:Nat→Int)(n:Nat):setD F (n+1)=(setD F n).put (Lit.int .i64 (F n)) unitD:=by rw[setD,keysL_succ,setOf_snoc]; rfl
theorem same_int(a b:Int):(Lit.int .i64 a).sameKey (Lit.int .i64 b)=decide (a=b):=by simp[Lit.sameKey]
theorem setD_has(F:Nat→Int)(n:Nat)(z:Int):Maps.has (setD F n) (Lit.int .i64 z)=!noneB F z n:=by
 rw[setD,has_setOf _ _ _ (keysL_key F n)]
 induction n with
 | zero=>rfl
 | succ n ih=>
  rw[keysL_succ,List.any_append,ih]
  simp only[List.any_cons,List.any_nil,Bool.or_false,same_int,noneB,Bool.not_and]
  by_cases e:F n=z <;> simp[e]
def accL(F:Nat→Int)(n:Nat):List Lit:=(keysL F n).foldl addKey []
theorem accL_succ(F:Nat→Int)(n:Nat):accL F (n+1)=addKey (accL F n) (Lit.int .i64 (F n)):=by rw[accL,keysL_succ,List.foldl_append]; rfl
theorem accL_any(F:Nat→Int)(z:Int):∀n,(accL F n).any (fun y=>y.sameKey (Lit.int .i64 z))=!noneB F z n
 | 0=>rfl
 | n+1=>by
  have ih:=accL_any F z n
  rw[accL_succ,addKey]
  have ih2:=accL_any F (F n) n
  cases h:noneB F (F n) n with
  | true=>
   rw[h] at ih2
   rw[ih2,if_neg (by simp),List.any_append,ih]
   simp only[List.any_cons,List.any_nil,Bool.or_false,same_int,noneB,Bool.not_and]
   by_cases e:F n=z <;> simp[e]
  | false=>
   rw[h] at ih2
   rw[ih2,if_pos (by simp),ih]
   simp only[noneB]
   by_cases e:F n=z
   ·rw[←e,h]; rfl
   ·simp[e]
theorem accL_len(F:Nat→Int):∀n,(accL F n).length≤n∧((accL F n).length=n↔distB F n=true)
 | 0=>by simp[accL,keysL,distB]
 | n+1=>by
  obtain⟨h1,h2⟩:=accL_len F n
  have h3:=accL_any F (F n) n
  rw[accL_succ,addKey,h3]
  simp only[distB,Bool.and_eq_true,←h2]
  cases h:noneB F (F n) n with
  | true=>
   rw[if_neg (by simp),List.length_append]
   simp only[List.length_singleton,and_true]
   omega
  | false=>
   rw[if_pos (by simp)]
   simp only[Bool.false_eq_true,and_false,iff_false]
   omega
theorem setD_size(F:Nat→Int)(n:Nat):Maps.size (setD F n)≤n∧(Maps.size (setD F n)=n↔distB F n=true):=by
 rw[setD,size_setOf _ _ (keysL_key F n)]
 exact accL_len F n
theorem map_t:Tryz.prog.underlying 184=some (.map 3 185):=by kernel_rfl
theorem int_t:Tryz.prog.underlying 3=some (.int .i64):=by kernel_rfl
theorem key_int:Keyed Tryz.prog 3:=int_keyed int_t
theorem i64_wf{z:Int}(h:-9223372036854775808≤z∧z≤9223372036854775807):(Lit.int .i64 z).wf=true:=by
 have h1:IntKind.i64.min = -9223372036854775808:=rfl
 have h2:IntKind.i64.max=9223372036854775807:=rfl
 simp only[Lit.wf,Bool.and_eq_true,decide_eq_true_eq]
 omega
theorem key_of{z:Int}(h:-9223372036854775808≤z∧z≤9223372036854775807):keyOf Tryz.prog 3 (.int .i64 z)=some (.int .i64 z):=keyOf_int_mk int_t (i64_wf h)
def IsSet(w:World)(b:Nat)(F:Nat→Int)(n:Nat):Prop:=w.ownsMap (H:=Unit) Tryz.prog 3 unitElem b n (setD F n)
theorem IsSet.kept{w w':World}{b:Nat}{F:Nat→Int}{n:Nat}{row:Option Nat}(h:IsSet w b F n)(hg:w.grownBy w' row)(hne:some b≠row):IsSet w' b F n:=World.ownsMap.kept h hg hne
theorem IsSet.lt{w:World}{b:Nat}{F:Nat→Int}{n:Nat}(h:IsSet w b F n):b < w.heap.size:=World.ownsMap.lt h
theorem IsSet.made(w:World)(F:Nat→Int):IsSet (w.alloc (.map #[] 0)) w.heap.size F 0:=World.ownsMap_made _ _ _ _
theorem IsSet.below{w w':World}{b:Nat}{F:Nat→Int}{n:Nat}(h:IsSet w b F n)(hb:Below w.heap.size w w'):IsSet w' b F n:=h.kept (row:=none) ⟨hb.os,hb.tape,hb.output,hb.size,fun i hi _=>hb.block i hi⟩ (by simp)
theorem wp_add{w:World}{o:Oper}{a:Act}{K:Act→World→Prop}{Q:Exit→Act→World→Prop}(m x v:Operand)(hop:o.op=Op.mapUpdate 184 m x v)(b n:Nat)(F:Nat→Int)(hn:n≤1000000)
  (hm:a.eval m=.map (some b)) (hs:IsSet w b F n) (hx:a.eval x=.int .i64 (F n)) (hv:a.eval v=.agg #[]) (hF:-9223372036854775808≤F n∧F n≤9223372036854775807)
  (hK:∀w',IsSet w' b F (n+1)→w.grownBy w' (some b)→K (a.put o.dst undef) w'):o.wp Tryz.prog a w K Q:=by
 obtain⟨w',hrun,r1,r2⟩:=World.ownsMap.update hs key_int map_t (by unfold maxLen; omega) (key_of hF) unitElem_mk
 unfold Oper.wp
 simp[execOp,hop,hm,hx,hv,hrun,Result.andThen]
 refine hK _ ?_ r2
 unfold IsSet
 rw[setD_succ]
 exact r1
theorem wpList_add{w:World}{ops:Array Oper}{rest:List Oper}{o:Oper}{a:Act}{Q:Exit→Act→World→Prop}(hgd:o.guard=none)(m x v:Operand)(hop:o.op=Op.mapUpdate 184 m x v)(b n:Nat)(F:Nat→Int)(hn:n≤1000000)
  (hm:a.eval m=.map (some b)) (hs:IsSet w b F n) (hx:a.eval x=.int .i64 (F n)) (hv:a.eval v=.agg #[]) (hF:-9223372036854775808≤F n∧F n≤9223372036854775807)
  (hK:∀w',IsSet w' b F (n+1)→w.grownBy w' (some b)→wpList Tryz.prog ops Q rest (a.put o.dst undef) w'):wpList Tryz.prog ops Q (o :: rest) a w:=
 wpList_plain hgd fun _ hK'=>wp_add m x v hop b n F hn hm hs hx hv hF fun w' h1 h2=>hK' _ _ (hK w' h1 h2)
end Rm
end Go.Proofs.YteaocagepfgfnaaGreatDoor
