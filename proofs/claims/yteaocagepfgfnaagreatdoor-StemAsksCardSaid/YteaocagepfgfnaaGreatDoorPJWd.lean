import Derived.Test.YteaocagepfgfnaaGreatDoorRows
import Derived.WalkKit
import Derived.Handy
import Derived.Lib.Hide
import Derived.Laws.AppendOwnNone
import Derived.Laws.BytesString
import Derived.Deep.MidRow
import Derived.PlainAid
import Derived.Lib.LazyBuf
import Derived.Lib.SliceRun
import Derived.BigQuiet
import Derived.Deep.QuietTactic
import Derived.Outline
set_option maxRecDepth 100000
set_option maxHeartbeats 8000000
namespace Go.Proofs.YteaocagepfgfnaaGreatDoor
namespace Byt
open Go.RowKit
def bys(xs:List Int):List Value:=xs.map (Value.int .u8)
theorem bys_length(xs:List Int):(bys xs).length=xs.length:=by simp[bys]
theorem bys_append(xs ys:List Int):bys (xs ++ ys)=bys xs ++ bys ys:=by simp[bys]
theorem bys_get(xs:List Int)(i:Nat)(h:i < xs.length):(bys xs)[i]?=some (.int .u8 (xs.getD i 0)):=by
 simp[bys,List.getD_eq_getElem?_getD,h]
structure Lies(w:World)(B:Nat)(ao:Option Addr)(cap:Nat)(xs:List Int):Prop where
 room:xs.length≤cap
 nil:ao=none→cap=0
 cells:xs≠[]→∃b off,ao=some ⟨b,off,none⟩∧b < B∧∀i,i < xs.length→w.cell? ⟨b,off+i,none⟩=some (.int .u8 (xs.getD i 0))
theorem Lies.keep{w w':World}{B:Nat}{ao:Option Addr}{cap:Nat}{xs:List Int}(h:Lies w B ao cap xs)(hk:∀p:Addr,p.block < B→w'.cell? p=w.cell? p):Lies w' B ao cap xs:=
 ⟨h.room,h.nil,fun hn=>by
  obtain⟨b,off,e,hb,hc⟩:=h.cells hn
  exact⟨b,off,e,hb,fun i hi=>(hk _ hb).trans (hc i hi)⟩⟩
theorem Lies.below{w w':World}{B:Nat}{ao:Option Addr}{cap:Nat}{xs:List Int}(h:Lies w B ao cap xs)(hb:Below B w w'):Lies w' B ao cap xs:=h.keep fun _ hp=>hb.cell hp
theorem Lies.more{w:World}{B B':Nat}{ao:Option Addr}{cap:Nat}{xs:List Int}(h:Lies w B ao cap xs)(hB:B≤B'):Lies w B' ao cap xs:=
 ⟨h.room,h.nil,fun hn=>by
  obtain⟨b,off,e,hb,hc⟩:=h.cells hn
  exact⟨b,off,e,by omega,hc⟩⟩
theorem lies_own{w:World}{base:Nat}{ao:Option Addr}{cap:Nat}{xs:List Int}(h:w.ownsRow base 5 1 (.slice ao xs.length cap) xs.length (bys xs)):Lies w w.heap.size ao cap xs:=by
 have hlt:=h.lt
 have hc:=h.cells (g:=(ao.map (·.block)).getD 0)
 rcases h.2 with ⟨hv,hn⟩ | ⟨g,cap',cur,hv,hb,hg,hnc,_,hcs,ht⟩
 ·injection hv with h1 h2 h3
  exact⟨by omega,fun _=>h3,fun hx=>absurd (List.eq_nil_of_length_eq_zero hn) hx⟩
 ·injection hv with h1 h2 h3
  subst h1 h3
  refine⟨hnc,fun e=>(by cases e),fun _=>⟨g,0,rfl,(hlt g rfl).2,fun i hi=>?_⟩⟩
  rw[Nat.zero_add,cell_of_row w g i cur _ _ hg]
  have e1:=bys_get xs i hi
  rw[←ht] at e1
  simpa[List.getElem?_take,hi] using e1
theorem bytes_info:(Tryz.prog.info? 5).map (fun i=>(i.zero,i.size,i.bytes))=some (some (.int .u8 0),1,1):=by kernel_rfl
theorem bytes_slice:Tryz.prog.underlying 39=some (.slice 5):=by kernel_rfl
theorem bys_one(xs:List Int):∀u ∈ bys xs,u.oneCell'=true:=ints_oneCell _ _
theorem append_lies{w:World}{ops:Array Oper}{rest:List Oper}{o:Oper}{a:Act}{Q:Exit→Act→World→Prop}(hgd:o.guard=none)(s x:Operand)
  (ho:o.op=.call { callee:=.builtin .append,args:=#[s,x],argTypes:=#[39,39] }) (base:Nat) (v:Value) (ys:List Int) (hs:a.eval s=v) (hown:w.ownsRow base 5 1 v ys.length (bys ys))
  (B:Nat) (ao:Option Addr) (cap:Nat) (xs:List Int) (n:Nat) (hn:n=xs.length) (hx:a.eval x=.slice ao n cap) (hl:Lies w B ao cap xs) (hlen:ys.length+xs.length≤140737488355328) (hbase:base≤w.heap.size)
  (h:∀v' w',w'.ownsRow base 5 1 v' (ys ++ xs).length (bys (ys ++ xs))→w.grownBy w' v.ownBlock→wpList Tryz.prog ops Q rest (a.put o.dst v') w'):wpList Tryz.prog ops Q (o :: rest) a w:=by
 subst hn
 obtain⟨i0,hi,hz0,hz1,hz2⟩:=info_parts bytes_info
 cases ao with
 | none=>
  have hc:=hl.nil rfl
  have hx0:xs=[]:=List.eq_nil_of_length_eq_zero (by have:=hl.room; omega)
  subst hx0 hc
  exact wpList_append_own_none hgd s x 39 ho base 5 i0 1 bytes_slice hi v ys.length (bys ys) hs hown hx (h v w (by simpa using hown) (World.grownBy.refl _ _))
 | some ad=>
  refine wpList_append_own w hgd s x 39 ho base 5 i0 (.int .u8 0) 1 1 bytes_slice hi hz0 hz1 hz2 rfl (by decide) v ys.length (bys ys) hs hown ad xs.length cap (bys xs) hx (by simp[bys]) ?_ (bys_one _) (by unfold maxLen; omega) (by omega) hbase ?_
  ·intro j u hu
   have hj:j < xs.length:=by
    have:=(List.getElem?_eq_some_iff.1 hu).1
    rwa [bys_length] at this
   obtain⟨b,off,e,_,hc⟩:=hl.cells (fun e=>by rw[e] at hj; simp at hj)
   injection e with e
   subst e
   rw[Addr.add_mid,hc j hj,←hu,bys_get xs j hj]
  ·intro v' w' h1 h2 _
   exact h v' w' (by rw[bys_append,List.length_append]; exact h1) h2
def Byte(xs:List Int):Prop:=∀x ∈ xs,0≤x∧x < 256
end Byt
namespace Byt
open Go.RowKit
def tab(n:Nat)(f:Nat→Int):List Int:=(List.range n).map f
@[simp] theorem tab_length (n:Nat) (f:Nat→Int):(tab n f).length=n:=by simp[tab]
theorem tab_getD(n:Nat)(f:Nat→Int){i:Nat}(h:i < n):(tab n f).getD i 0=f i:=by simp[tab,List.getD_eq_getElem?_getD,h]
theorem byte_tab{n:Nat}{f:Nat→Int}(h:∀i,i < n→0≤f i∧f i < 256):Byte (tab n f):=by
 intro x hx
 simp only[tab,List.mem_map,List.mem_range] at hx
 obtain⟨i,hi,rfl⟩:=hx
 exact h i hi
structure Row(w:World)(g off n:Nat)(f:Nat→Int):Prop where
 cur:∃cur:Array Value,(∃ty,w.heap[g]?=some (.cells cur ty (0,0)))∧∀j,j < n→cur[off+j]?=some (.int .u8 (f j))
theorem Row.cell{w:World}{g off n:Nat}{f:Nat→Int}(h:Row w g off n f){j:Nat}(hj:j < n):w.cell? ⟨g,off+j,none⟩=some (.int .u8 (f j)):=by
 obtain⟨cur,⟨ty,hc⟩,hz⟩:=h.cur
 rw[cell_of_row w g (off+j) _ _ _ hc,hz j hj]
theorem Row.free{w:World}{g off n:Nat}{f:Nat→Int}(h:Row w g off n f)(j:Nat):w.frozen? ⟨g,j,none⟩=false:=by
 obtain⟨cur,⟨ty,hc⟩,_⟩:=h.cur
 exact frozen_of_row w g j _ _ hc
theorem Row.lt{w:World}{g off n:Nat}{f:Nat→Int}(h:Row w g off n f):g < w.heap.size:=by
 obtain⟨cur,⟨ty,hc⟩,_⟩:=h.cur
 exact(Array.getElem?_eq_some_iff.1 hc).1
def put(f:Nat→Int)(j:Nat)(z:Int)(i:Nat):Int:=if i=j then z else f i
theorem Row.store{w:World}{g off n:Nat}{f:Nat→Int}(h:Row w g off n f)(j:Nat)(z:Int):Row (w.setCell ⟨g,off+j,none⟩ (.int .u8 z)) g off n (put f j z):=by
 obtain⟨cur,⟨ty,hc⟩,hz⟩:=h.cur
 refine⟨⟨cur.setIfInBounds (off+j) (.int .u8 z),⟨_,heap_setCell_same w g (off+j) cur _ _ hc⟩,fun i hi=>?_⟩⟩
 rw[Array.getElem?_setIfInBounds]
 unfold put
 by_cases hij:i=j
 ·subst hij
  have hs:off+i < cur.size:=(Array.getElem?_eq_some_iff.1 (hz i hi)).1
  simp[hs]
 ·rw[if_neg (by omega),if_neg hij]
  exact hz i hi
theorem Row.congr{w:World}{g off n:Nat}{f f':Nat→Int}(h:Row w g off n f)(he:∀j,j < n→f j=f' j):Row w g off n f':=by
 obtain⟨cur,⟨ty,hc⟩,hz⟩:=h.cur
 exact⟨⟨cur,⟨_,hc⟩,fun j hj=>by rw[hz j hj,he j hj]⟩⟩
theorem Row.part{w:World}{g off n:Nat}{f:Nat→Int}(h:Row w g off n f)(a m:Nat)(hm:a+m≤n):Row w g (off+a) m (fun j=>f (a+j)):=by
 obtain⟨cur,⟨ty,hc⟩,hz⟩:=h.cur
 exact⟨⟨cur,⟨_,hc⟩,fun j hj=>by rw[show off+a+j=off+(a+j) by omega,hz _ (by omega)]⟩⟩
theorem Row.block{w w':World}{g off n:Nat}{f:Nat→Int}(h:Row w g off n f)(hb:w'.heap[g]?=w.heap[g]?):Row w' g off n f:=by
 obtain⟨cur,⟨ty,hc⟩,hz⟩:=h.cur
 exact⟨⟨cur,⟨_,hb.trans hc⟩,hz⟩⟩
theorem Row.lies{w:World}{g off n:Nat}{f:Nat→Int}(h:Row w g off n f){B cap:Nat}(hB:g < B)(hc:n≤cap):Lies w B (some ⟨g,off,none⟩) cap (tab n f):=by
 refine⟨by simpa using hc,by simp,fun _=>⟨g,off,rfl,hB,fun i hi=>?_⟩⟩
 have hi':i < n:=by simpa using hi
 rw[h.cell hi',tab_getD n f hi']
theorem row_own{w:World}{base:Nat}{v:Value}{n:Nat}{xs:List Int}(hn:n=xs.length)(h:w.ownsRow base 5 1 v n (bys xs)) :
  (v=.slice none 0 0∧n=0)∨∃g cap,v=.slice (some ⟨g,0,none⟩) n cap∧base≤g∧n≤cap∧cap≤maxLen∧Row w g 0 n (fun i=>xs.getD i 0):=by
 subst hn
 rcases h.2 with ⟨hv,hn⟩ | ⟨g,cap,cur,hv,hb,hg,hnc,hm,hcs,ht⟩
 ·exact .inl ⟨hv,hn⟩
 ·refine .inr ⟨g,cap,hv,hb,hnc,hm,⟨⟨cur,⟨_,hg⟩,fun i hi=>?_⟩⟩⟩
  have e1:=bys_get xs i hi
  rw[←ht] at e1
  simpa[List.getElem?_take,hi] using e1
def mix(f:Nat→Int)(a k:Nat)(h:Nat→Int)(i:Nat):Int:=if a≤i∧i < a+k then h (i - a) else f i
theorem mix_zero(f:Nat→Int)(a:Nat)(h:Nat→Int):mix f a 0 h=f:=by
 funext i
 unfold mix
 rw[if_neg (by omega)]
theorem put_mix(f:Nat→Int)(a k:Nat)(h:Nat→Int):put (mix f a k h) (a+k) (h k)=mix f a (k+1) h:=by
 funext i
 unfold put mix
 by_cases e:i=a+k
 ·rw[if_pos e,if_pos (by omega),show i - a=k by omega]
 ·rw[if_neg e]
  by_cases h':a≤i∧i < a+k
  ·rw[if_pos h',if_pos (by omega)]
  ·rw[if_neg h',if_neg (by omega)]
theorem mix_in{f:Nat→Int}{a k:Nat}{h:Nat→Int}{i:Nat}(h1:a≤i)(h2:i < a+k):mix f a k h i=h (i - a):=by unfold mix; rw[if_pos ⟨h1,h2⟩]
theorem mix_out{f:Nat→Int}{a k:Nat}{h:Nat→Int}{i:Nat}(h1:¬ (a≤i∧i < a+k)):mix f a k h i=f i:=by unfold mix; rw[if_neg h1]
theorem mix_byte{f h:Nat→Int}{a k n:Nat}(hf:∀i,i < n→0≤f i∧f i < 256)(hh:∀i,i < k→0≤h i∧h i < 256)(i:Nat)(hi:i < n):0≤mix f a k h i∧mix f a k h i < 256:=by
 unfold mix
 split
 ·exact hh _ (by omega)
 ·exact hf i hi
theorem oT{g:Nat}{a w w':World}(h:a.grownBy w (some g))(k:w.grownBy w' (some g)):a.grownBy w' (some g):=
 ⟨k.os.trans h.os,k.tape.trans h.tape,k.output.trans h.output,Nat.le_trans h.size k.size,fun i hi hr=>(k.block i (by have:=h.size; omega) hr).trans (h.block i hi hr)⟩
theorem only_store{g:Nat}{a w:World}(h:a.grownBy w (some g))(j:Nat)(v:Value):a.grownBy (w.setCell ⟨g,j,none⟩ v) (some g):=
 oT h ⟨rfl,rfl,rfl,by simp,fun k _ hr=>Below.heap_setCell _ _ _ _ (by rintro rfl; exact hr rfl)⟩
theorem Lies.only{w w':World}{B:Nat}{b off:Nat}{cap:Nat}{xs:List Int}{g:Nat}(h:Lies w B (some ⟨b,off,none⟩) cap xs)(hB:B≤w.heap.size)(hg:w.grownBy w' (some g))(hne:b≠g):Lies w' B (some ⟨b,off,none⟩) cap xs:=
 ⟨h.room,h.nil,fun hn=>by
  obtain⟨b',off',e,hb,hc⟩:=h.cells hn
  injection e with e
  injection e with e1 e2
  subst e1 e2
  exact⟨b,off,rfl,hb,fun i hi=>(World.cell?_of_block (w:=w) (hg.block b (by omega) (by simpa using hne))).trans (hc i hi)⟩⟩
theorem Row.only{w w':World}{g g' off n:Nat}{f:Nat→Int}(h:Row w g off n f)(hg:w.grownBy w' (some g'))(hne:g≠g'):Row w' g off n f:=
 h.block (hg.block g h.lt (by simpa using hne))
theorem Row.below{w w':World}{g off n B:Nat}{f:Nat→Int}(h:Row w g off n f)(hb:Below B w w')(hB:g < B):Row w' g off n f:=h.block (hb.block g hB)
end Byt
namespace Byt
open Go.RowKit Go.PlainAid
theorem mix_next(f:Nat→Int)(a k:Nat)(h:Nat→Int):mix (put f a (h 0)) (a+1) k (fun i=>h (i+1))=mix f a (k+1) h:=by
 funext i
 unfold mix put
 by_cases e:i=a
 ·subst e
  rw[if_neg (by omega),if_pos rfl,if_pos (by omega),Nat.sub_self]
 ·by_cases h':a+1≤i∧i < a+1+k
  ·rw[if_pos h',if_pos (by omega)]
   show h (i - (a+1)+1)=_
   rw[show i - (a+1)+1=i - a by omega]
  ·rw[if_neg h',if_neg e,if_neg (by omega)]
theorem tab_succ(k:Nat)(h:Nat→Int):tab (k+1) h=h 0 :: tab k (fun i=>h (i+1)):=by
 unfold tab
 rw[List.range_succ_eq_map,List.map_cons,List.map_map]
 rfl
theorem Row.many{g off n:Nat}:∀(k j:Nat) (h f:Nat→Int) (w:World),Row w g off n f→Row (w.setCells g (off+j) (bys (tab k h))) g off n (mix f j k h)
 | 0,j,h,f,w,hr=>by rw[mix_zero]; exact hr
 | k+1,j,h,f,w,hr=>by
  rw[tab_succ]
  show Row ((w.setCell ⟨g,off+j,none⟩ (.int .u8 (h 0))).setCells g (off+j+1) (bys (tab k fun i=>h (i+1)))) g off n _
  rw[←mix_next,Nat.add_assoc]
  exact Row.many k (j+1) _ _ _ (hr.store j (h 0))
end Byt
namespace Wd
open Go.RowKit
def byteAt(n:Int)(i:Nat):Int:=n / 2 ^ (8 * i) % 256
theorem byteAt_bd(n:Int)(i:Nat):0≤byteAt n i∧byteAt n i < 256:=by unfold byteAt; omega
def sumLE(f:Nat→Int):Nat→Int
 | 0=>0
 | k+1=>sumLE f k+f k * 2 ^ (8 * k)
theorem pow8(k:Nat):(2:Int) ^ (8 * (k+1))=2 ^ (8 * k) * 256:=by
 rw[show 8 * (k+1)=8 * k+8 by omega,Int.pow_add]; rfl
theorem pow8_pos(k:Nat):(0:Int) < 2 ^ (8 * k):=Int.pow_pos (by decide)
theorem sumLE_bd(f:Nat→Int):∀k,(∀i,i < k→0≤f i∧f i < 256)→0≤sumLE f k∧sumLE f k < 2 ^ (8 * k)
 | 0,_=>by simp[sumLE]
 | k+1,h=>by
  have ih:=sumLE_bd f k fun i hi=>h i (by omega)
  have hk:=h k (by omega)
  have hp:=pow8_pos k
  rw[pow8]
  simp only[sumLE]
  have h1:0≤f k * 2 ^ (8 * k):=Int.mul_nonneg hk.1 (by omega)
  have h2:f k * 2 ^ (8 * k)≤255 * 2 ^ (8 * k):=Int.mul_le_mul_of_nonneg_right (by omega) (by omega)
  omega
theorem pow_le(k:Nat)(h:k≤8):(2:Int) ^ (8 * k)≤18446744073709551616:=by
 match k,h with
 | 0,_ | 1,_ | 2,_ | 3,_ | 4,_ | 5,_ | 6,_ | 7,_ | 8,_=>decide
theorem sumLE_congr{f g:Nat→Int}:∀{k},(∀i,i < k→f i=g i)→sumLE f k=sumLE g k
 | 0,_=>rfl
 | k+1,h=>by simp only[sumLE]; rw[sumLE_congr (fun i hi=>h i (by omega)),h k (by omega)]
theorem sumLE_byteAt(n:Int):∀k,sumLE (byteAt n) k=n % 2 ^ (8 * k)
 | 0=>by simp[sumLE]
 | k+1=>by
  simp only[sumLE]
  rw[sumLE_byteAt n k,pow8]
  unfold byteAt
  have hp:=pow8_pos k
  rw[Int.emod_def n (2 ^ (8 * k)),Int.emod_def n (2 ^ (8 * k) * 256),Int.emod_def (n / 2 ^ (8 * k)) 256,←Int.ediv_ediv_of_nonneg (by omega:(0:Int)≤2 ^ (8 * k))]
  generalize (n / 2 ^ (8 * k))=q
  generalize (2:Int) ^ (8 * k)=a
  generalize q / 256=r
  rw[Int.sub_mul,Int.mul_comm q a,Int.mul_right_comm 256 r a,Int.mul_comm 256 a]
  omega
theorem or_nat(a b i:Nat)(ha:a < 2 ^ i):a ||| b * 2 ^ i=a+b * 2 ^ i:=by
 rw[Nat.or_comm,←Nat.shiftLeft_eq,Nat.add_comm]
 exact(Nat.shiftLeft_add_eq_or_of_lt ha b).symm
theorem or_step(a x:Int)(i:Nat)(ha:0≤a∧a < 2 ^ (8 * i))(hx:0≤x∧x < 256)(hi:i < 8):bits .or .u64 a (x * 2 ^ (8 * i))=a+x * 2 ^ (8 * i):=by
 obtain⟨n,rfl⟩:∃n:Nat,a=n:=⟨a.toNat,by omega⟩
 obtain⟨m,rfl⟩:∃m:Nat,x=m:=⟨x.toNat,by omega⟩
 have hn:n < 2 ^ (8 * i):=by
  have:=ha.2
  rw[show((2:Int) ^ (8 * i))=((2 ^ (8 * i):Nat):Int) by simp] at this
  omega
 have e:((m:Int) * 2 ^ (8 * i))=((m * 2 ^ (8 * i):Nat):Int):=by simp
 have hle:=pow_le (i+1) (by omega)
 rw[pow8] at hle
 have hN:2 ^ (8 * i) * 256≤18446744073709551616:=by
  have:((2:Int) ^ (8 * i))=((2 ^ (8 * i):Nat):Int):=by simp
  rw[this] at hle
  omega
 have hm:m * 2 ^ (8 * i)≤255 * 2 ^ (8 * i):=Nat.mul_le_mul_right _ (by omega)
 rw[e]
 unfold bits
 have h1:(BitVec.ofInt IntKind.u64.bits (n:Int)).toNat=n:=by
  show(BitVec.ofInt 64 (n:Int)).toNat=n
  rw[BitVec.toNat_ofInt]
  have:((2 ^ 64:Nat):Int)=18446744073709551616:=by decide
  omega
 have h2:(BitVec.ofInt IntKind.u64.bits ((m * 2 ^ (8 * i):Nat):Int)).toNat=m * 2 ^ (8 * i):=by
  show(BitVec.ofInt 64 ((m * 2 ^ (8 * i):Nat):Int)).toNat=m * 2 ^ (8 * i)
  rw[BitVec.toNat_ofInt]
  have:((2 ^ 64:Nat):Int)=18446744073709551616:=by decide
  omega
 simp only[BitVec.toNat_or,h1,h2,or_nat n m _ hn]
 rw[IntKind.wrap_u64]
 omega
end Wd
namespace Wd
open Go.RowKit Byt
theorem place_ok(g off n cap a k:Nat)(most:Int)(w:World)(hc:n≤cap)(hn:n≤140737488355328)(h1:1≤k)(h2:(k:Int)≤most)(h3:a+k≤n) :
  Calls Tryz.prog 146 #[.slice (some ⟨g,off,none⟩) n cap,.int .i64 a,.int .i64 k,.int .i64 most] w fun e w'=>e=.returned (.tuple #[.slice (some ⟨g,off+a,none⟩) k (cap - a),.bool true])∧w=w':=by
 go_enter Tryz.func146,Tryz.ntmps146
 go_wp2
 go_ret2
 refine⟨?_,rfl⟩
 show Ending.returned (.tuple #[.slice (some ⟨g,off+a,none⟩) (a+k - a) (cap - a),.bool true])=_
 rw[Nat.add_sub_cancel_left]
theorem place_no(ao:Option Addr)(n cap:Nat)(a k most:Int)(w:World)(hn:n≤140737488355328)(hm:most≤1000)(h:k < 1∨k > most∨a < 0∨a > n - k) :
  Calls Tryz.prog 146 #[.slice ao n cap,.int .i64 a,.int .i64 k,.int .i64 most] w fun e w'=>e=.returned (.tuple #[.slice none 0 0,.bool false])∧w=w':=by
 go_enter Tryz.func146,Tryz.ntmps146
 go_wp2
 all_goals
  go_ret2
  exact⟨rfl,rfl⟩
theorem put_ok(g off n cap a k:Nat)(z:Int)(f:Nat→Int)(w:World)(hr:Row w g off n f)(hc:n≤cap)(hn:n≤140737488355328)(h1:1≤k)(h2:k≤8)(h3:a+k≤n)(z0:0≤z)(z1:z / 2 ^ (8 * k)=0) :
  Calls Tryz.prog 118 #[.slice (some ⟨g,off,none⟩) n cap,.int .i64 a,.int .i64 k,.int .i64 z] w fun e w'=>
   e=.returned (.int .i64 0)∧w.grownBy w' (some g)∧Row w' g off n (mix f a k (byteAt z)):=by
 have HR:=Lib.hid hr
 clear hr
 go_enter Tryz.func118,Tryz.ntmps118
 go_wp2_with fail
 refine(place_ok g off n cap a k 8 w hc hn h1 (by omega) h3).mono ?_
 rintro _ _ ⟨rfl,rfl⟩
 dsimp only
 go_wp2_with fail
 clear z1
 go_loopw [34] (fun i wr=>∃j:Nat,j≤k∧i=.int .i64 j∧w.grownBy wr (some g)∧Row wr g off n (mix f a j (byteAt z))) (fun i _=>k - (intOf i).toNat)
 case atStart=>exact⟨0,by omega,rfl,World.grownBy.refl _ _,by rw[mix_zero]; exact HR.out⟩
 case round=>
  obtain⟨j,hj,rfl,hG,hR⟩:=hrel
  by_cases hlt:j < k
  ·have hcell:=hR.cell (j:=a+j) (by omega)
   have hfr:=hR.free (off+(a+j))
   rw[←Nat.add_assoc] at hcell hfr
   have HG:=Lib.hid hG
   have HRR:=Lib.hid hR
   clear hG hR
   go_wp2_with fail
   go_roundw
   case rel=>
    refine⟨j+1,by omega,by go_num,only_store HG.out _ _,?_⟩
    have:=HRR.out.store (a+j) (byteAt z j)
    rw[put_mix] at this
    rw[←Nat.add_assoc] at this
    exact this
   case measure=>simp[intOf]; omega
  ·obtain rfl:j=k:=by omega
   go_wp2_with fail
   go_ret
   exact⟨rfl,hG,hR⟩
theorem put_no(ao:Option Addr)(n cap:Nat)(a k z:Int)(w:World)(hn:n≤140737488355328)(h:k < 1∨k > 8∨a < 0∨a > n - k∨z < 0∨z / 2 ^ (8 * k.toNat)≠0)(hg:n=0∨∃g off,ao=some ⟨g,off,none⟩)(hc:n≤cap) :
  Calls Tryz.prog 118 #[.slice ao n cap,.int .i64 a,.int .i64 k,.int .i64 z] w fun e w'=>e=.returned (.int .i64 1)∧w=w':=by
 by_cases hp:k < 1∨k > 8∨a < 0∨a > n - k
 ·clear h
  have hp':=place_no ao n cap a k 8 w hn (by omega) hp
  clear hp
  go_enter Tryz.func118,Tryz.ntmps118
  go_wp2_with fail
  refine hp'.mono ?_
  rintro _ _ ⟨rfl,rfl⟩
  dsimp only
  go_wp2_with fail
  go_ret
  exact⟨rfl,rfl⟩
 ·obtain⟨a,rfl⟩:∃m:Nat,a=m:=⟨a.toNat,by omega⟩
  obtain⟨k,rfl⟩:∃m:Nat,k=m:=⟨k.toNat,by omega⟩
  obtain⟨g,off,rfl⟩:∃g off,ao=some ⟨g,off,none⟩:=hg.resolve_left (by omega)
  have hz:z < 0∨(0≤z∧z / 2 ^ (8 * k)≠0):=by
   rw[Int.toNat_natCast] at h
   omega
  have hp':=place_ok g off n cap a k 8 w hc hn (by omega) (by omega) (by omega)
  have hz2:z < 0∨(0≤z∧(z / 2 ^ (8 * k) != 0)=true):=by simpa using hz
  clear hz
  have hk8:k≤8:=by omega
  rcases hz2 with hz | ⟨hz,hz'⟩
  all_goals
   clear h hp hg
   go_enter Tryz.func118,Tryz.ntmps118
   go_wp2_with fail
   refine hp'.mono ?_
   rintro _ _ ⟨rfl,rfl⟩
   dsimp only
   go_wp2_with fail
   go_ret
   exact⟨rfl,rfl⟩
def takeVal(s:Int):Value:=if s≤9223372036854775807 then .tuple #[.int .i64 s,.int .i64 0] else .tuple #[.int .i64 0,.int .i64 15]
theorem takeVal_small{s:Int}(h:s≤9223372036854775807):takeVal s=.tuple #[.int .i64 s,.int .i64 0]:=by unfold takeVal; rw[if_pos h]
theorem takeVal_big{s:Int}(h:¬ s≤9223372036854775807):takeVal s=.tuple #[.int .i64 0,.int .i64 15]:=by unfold takeVal; rw[if_neg h]
theorem take_ok(g off n cap a k:Nat)(f:Nat→Int)(w:World)(hr:∀j,j < n→w.cell? ⟨g,off+j,none⟩=some (.int .u8 (f j)))(hf:∀j,j < n→0≤f j∧f j < 256)(hc:n≤cap)(hn:n≤140737488355328)(h1:1≤k)(h2:k≤8)(h3:a+k≤n) :
  Calls Tryz.prog 158 #[.slice (some ⟨g,off,none⟩) n cap,.int .i64 a,.int .i64 k] w fun e w'=>
   e=.returned (takeVal (sumLE (fun i=>f (a+i)) k))∧w=w':=by
 have HR:=Lib.hid hr
 have HF:=Lib.hid hf
 clear hr hf
 obtain⟨F,hF⟩:∃F:Nat→Int,F=fun i=>f (a+i):=⟨_,rfl⟩
 rw[←hF]
 have HC:Hid (∀j,j < k→w.cell? ⟨g,off+a+j,none⟩=some (.int .u8 (F j))):=Lib.hid fun j hj=>by rw[Nat.add_assoc,HR.out _ (by omega),hF]
 have HB:Hid (∀j,j < k→0≤F j∧F j < 256):=Lib.hid fun j hj=>by rw[hF]; exact HF.out _ (by omega)
 clear hF HR HF
 go_enter Tryz.func158,Tryz.ntmps158
 go_wp2_with fail
 refine(place_ok g off n cap a k 8 w hc hn h1 (by omega) h3).mono ?_
 rintro _ _ ⟨rfl,rfl⟩
 dsimp only
 go_wp2_with fail
 go_loop [10,24] (fun v i=>∃j:Nat,j≤k∧i=.int .i64 j∧v=.int .u64 (sumLE F j)) (fun _ i=>k - (intOf i).toNat)
 case atStart=>exact⟨0,by omega,rfl,rfl⟩
 case round=>
  obtain⟨j,hj,rfl,rfl⟩:=hrel
  have hb:=sumLE_bd F j (fun i hi=>HB.out i (by omega))
  by_cases hlt:j < k
  ·have hcell:=HC.out j hlt
   have hx:=HB.out j hlt
   have hor:=or_step (sumLE F j) (F j) j hb hx (by omega)
   have h0:0≤F j * 2 ^ (8 * j):=Int.mul_nonneg hx.1 (by have:=pow8_pos j; omega)
   have hm:F j * 2 ^ (8 * j)≤18446744073709551615:=by
    have h1:=pow_le (j+1) (by omega)
    rw[pow8] at h1
    have h2:F j * 2 ^ (8 * j)≤255 * 2 ^ (8 * j):=Int.mul_le_mul_of_nonneg_right (by omega) (by have:=pow8_pos j; omega)
    have:=pow8_pos j
    omega
   go_wp2_with fail
   go_round
   case rel=>exact⟨j+1,by omega,by go_num,rfl⟩
   case measure=>simp[intOf]; omega
  ·obtain rfl:j=k:=by omega
   have h64:=pow_le j h2
   by_cases hbig:sumLE F j≤9223372036854775807
   ·have he:=Lib.hid (takeVal_small hbig)
    go_wp2_with fail
    go_ret2
    exact⟨congrArg Ending.returned he.out.symm,rfl⟩
   ·have he:=Lib.hid (takeVal_big hbig)
    go_wp2_with fail
    go_ret2
    exact⟨congrArg Ending.returned he.out.symm,rfl⟩
theorem take_no(ao:Option Addr)(n cap:Nat)(a k:Int)(w:World)(hn:n≤140737488355328)(h:k < 1∨k > 8∨a < 0∨a > n - k) :
  Calls Tryz.prog 158 #[.slice ao n cap,.int .i64 a,.int .i64 k] w fun e w'=>e=.returned (.tuple #[.int .i64 0,.int .i64 1])∧w=w':=by
 have hp':=place_no ao n cap a k 8 w hn (by omega) h
 clear h
 go_enter Tryz.func158,Tryz.ntmps158
 go_wp2_with fail
 refine hp'.mono ?_
 rintro _ _ ⟨rfl,rfl⟩
 dsimp only
 go_wp2_with fail
 go_ret2
 exact⟨rfl,rfl⟩
def zeroB(f:Nat→Int):Nat→Bool
 | 0=>true
 | n+1=>zeroB f n && (f n == 0)
theorem zeroB_true{f:Nat→Int}:∀{n},zeroB f n=true↔∀i,i < n→f i=0
 | 0=>by simp[zeroB]
 | n+1=>by
  simp only[zeroB,Bool.and_eq_true,zeroB_true (n:=n),beq_iff_eq]
  constructor
  ·intro h i hi
   by_cases e:i=n
   ·subst e; exact h.2
   ·exact h.1 i (by omega)
  ·intro h
   exact⟨fun i hi=>h i (by omega),h n (by omega)⟩
theorem zeroB_false{f:Nat→Int}{n i:Nat}(h:i < n)(hi:f i≠0):zeroB f n=false:=by
 rw[Bool.eq_false_iff]
 intro e
 exact hi (zeroB_true.1 e i h)
theorem zeroB_congr{f g:Nat→Int}{n:Nat}(h:∀i,i < n→f i=g i):zeroB f n=zeroB g n:=by
 rw[Bool.eq_iff_iff,zeroB_true,zeroB_true]
 constructor
 ·intro k i hi; rw[←h i hi]; exact k i hi
 ·intro k i hi; rw[h i hi]; exact k i hi
def Reads(w:World)(ao:Option Addr)(n cap:Nat)(f:Nat→Int):Prop:=n≤cap∧(ao=none→cap=0)∧(n=0∨∃g off,ao=some ⟨g,off,none⟩∧∀j,j < n→w.cell? ⟨g,off+j,none⟩=some (.int .u8 (f j)))
theorem zero_any(ao:Option Addr)(n cap:Nat)(f:Nat→Int)(w:World)(hr:Reads w ao n cap f)(hn:n≤140737488355328) :
  Calls Tryz.prog 100 #[.slice ao n cap] w fun e w'=>e=.returned (.bool (zeroB f n))∧w=w':=by
 obtain⟨hc,_,h0 | ⟨g,off,rfl,hr⟩⟩:=hr
 ·subst h0
  go_enter Tryz.func100,Tryz.ntmps100
  go_wp2_with fail
  go_rounds 1
  go_ret
  exact⟨rfl,rfl⟩
 have HR:=Lib.hid hr
 clear hr
 obtain⟨z,hz⟩:∃z,z=zeroB f n:=⟨_,rfl⟩
 rw[←hz]
 have HZ:=Lib.hid hz
 clear hz
 go_enter Tryz.func100,Tryz.ntmps100
 go_wp2_with fail
 go_loop [7] (fun i=>∃j:Nat,j≤n∧i=.int .i64 j∧Hid (∀i,i < j→f i=0)) (fun i=>n - (intOf i).toNat)
 case atStart=>exact⟨0,by omega,rfl,fun i hi=>by omega⟩
 case round=>
  obtain⟨j,hj,rfl,hz⟩:=hrel
  by_cases hlt:j < n
  ·have hcell:=HR.out j hlt
   by_cases hx:f j=0
   ·have hz':Hid (∀i,i < j+1→f i=0):=Lib.hid fun i hi=>by
     by_cases e:i=j
     ·subst e; exact hx
     ·exact hz.out i (by omega)
    go_wp2_with fail
    go_round
    case rel=>exact⟨j+1,by omega,by go_num,hz'⟩
    case measure=>simp[intOf]; omega
   ·have hx':(f j != 0)=true:=by simpa using hx
    have hz':=Lib.hid (zeroB_false hlt hx)
    clear hx
    go_wp2_with fail
    go_ret
    exact⟨congrArg (fun b=>Ending.returned (.bool b)) (HZ.out.trans hz'.out).symm,rfl⟩
  ·obtain rfl:j=n:=by omega
   have hz':=Lib.hid (zeroB_true.2 hz.out)
   go_wp2_with fail
   go_ret
   exact⟨congrArg (fun b=>Ending.returned (.bool b)) (HZ.out.trans hz'.out).symm,rfl⟩
end Wd
namespace Wd
open Go.RowKit Byt Go.PlainAid
end Wd
namespace WdRef
open Go.RowKit Byt Wd Go.PlainAid
end WdRef
namespace WdRef
open Go.RowKit Byt Wd Go.PlainAid
end WdRef
namespace Wd
open Go.RowKit Byt Go.PlainAid
structure Own(w:World)(B:Nat)(ao:Option Addr)(n cap:Nat)(f:Nat→Int):Prop where
 room:n≤cap
 nil:ao=none→cap=0
 row:(ao=none∧n=0)∨∃g,ao=some ⟨g,0,none⟩∧B≤g∧Row w g 0 n f
def Only(w w':World)(ao:Option Addr):Prop:=w.grownBy w' (ao.map (·.block))
theorem Only.refl(w:World)(ao:Option Addr):Only w w ao:=World.grownBy.refl _ _
theorem Own.reads{w:World}{B:Nat}{ao:Option Addr}{n cap:Nat}{f:Nat→Int}(h:Own w B ao n cap f):Reads w ao n cap f:=
 ⟨h.room,h.nil,h.row.imp (·.2) fun⟨g,e,_,hr⟩=>⟨g,0,e,fun _ hj=>hr.cell hj⟩⟩
theorem Own.below{w w':World}{B:Nat}{ao:Option Addr}{n cap:Nat}{f:Nat→Int}(h:Own w B ao n cap f)(hB:Below w.heap.size w w'):Own w' B ao n cap f:=
 ⟨h.room,h.nil,h.row.imp id fun⟨g,e,hb,hr⟩=>⟨g,e,hb,hr.below hB hr.lt⟩⟩
theorem Own.under{B:Nat}{a w w':World}{ao:Option Addr}{n cap:Nat}{f:Nat→Int}(ho:Own w B ao n cap f)(h:Below B a w)(hg:Only w w' ao)(hs:B≤w.heap.size):Below B a w':=by
 refine h.grown hg hs fun k hk=>?_
 rcases ho.row with ⟨e,_⟩ | ⟨g,e,hb,_⟩
 ·rw[e] at hk; cases hk
 ·rw[e] at hk
  have:g=k:=by simpa using hk
  omega
theorem Own.other{B B':Nat}{w w':World}{ao bo:Option Addr}{n cap m cap':Nat}{f h:Nat→Int}(ho:Own w B ao n cap f)(_hb:Own w B' bo m cap' h)(hg:Only w w' bo)(hne:ao.map (·.block)=none∨ao.map (·.block)≠bo.map (·.block)):Own w' B ao n cap f:=by
 refine⟨ho.room,ho.nil,ho.row.imp id fun⟨g,e,hB,hr⟩=>⟨g,e,hB,hr.block (hg.block g hr.lt ?_)⟩⟩
 rw[e] at hne
 exact hne.resolve_left (by simp)
theorem Own.lt{B:Nat}{w:World}{ao:Option Addr}{n cap:Nat}{f:Nat→Int}(ho:Own w B ao n cap f):∀k,ao.map (·.block)=some k→B≤k∧k < w.heap.size:=by
 intro k hk
 rcases ho.row with ⟨e,_⟩ | ⟨g,e,hb,hr⟩
 ·rw[e] at hk; cases hk
 ·rw[e] at hk
  obtain rfl:g=k:=by simpa using hk
  exact⟨hb,hr.lt⟩
theorem Own.same{w w':World}{B:Nat}{ao:Option Addr}{n cap:Nat}{f:Nat→Int}(h:Own w B ao n cap f)(e:w'.heap=w.heap):Own w' B ao n cap f:=
 ⟨h.room,h.nil,h.row.imp id fun⟨g,e1,hb,hr⟩=>⟨g,e1,hb,hr.block (by rw[e])⟩⟩
def putGood(n:Nat)(a k z:Int):Prop:=1≤k∧k≤8∧0≤a∧a≤n - k∧0≤z∧z / 2 ^ (8 * k.toNat)=0
instance (n:Nat) (a k z:Int):Decidable (putGood n a k z):=by unfold putGood; infer_instance
def putF(n:Nat)(a k z:Int)(f:Nat→Int):Nat→Int:=if putGood n a k z then mix f a.toNat k.toNat (byteAt z) else f
def putE(n:Nat)(a k z:Int):Int:=if putGood n a k z then 0 else 1
def PutPost(w:World)(B:Nat)(ao:Option Addr)(n cap:Nat)(a k z:Int)(f:Nat→Int)(e:Ending)(w':World):Prop:=
 e=.returned (.int .i64 (putE n a k z))∧Only w w' ao∧Own w' B ao n cap (putF n a k z f)
theorem put_post{w:World}{B:Nat}{ao:Option Addr}{n cap:Nat}{f:Nat→Int}(h:Own w B ao n cap f)(a k z:Int)(F:FuncId)
  (hok:∀(g a' k':Nat),ao=some ⟨g,0,none⟩→Row w g 0 n f→a=a'→k=k'→1≤k'→k'≤8→a'+k'≤n→0≤z→z / 2 ^ (8 * k')=0→Calls Tryz.prog F #[.slice ao n cap,.int .i64 a,.int .i64 k,.int .i64 z] w fun e w'=>
   e=.returned (.int .i64 0)∧w.grownBy w' (some g)∧Row w' g 0 n (mix f a' k' (byteAt z)))
  (hno:(k < 1∨k > 8∨a < 0∨a > n - k∨z < 0∨z / 2 ^ (8 * k.toNat)≠0)→(n=0∨∃g off,ao=some ⟨g,off,none⟩)→Calls Tryz.prog F #[.slice ao n cap,.int .i64 a,.int .i64 k,.int .i64 z] w fun e w'=>e=.returned (.int .i64 1)∧w=w') :
  Calls Tryz.prog F #[.slice ao n cap,.int .i64 a,.int .i64 k,.int .i64 z] w (PutPost w B ao n cap a k z f):=by
 by_cases hg:putGood n a k z
 ·have hg':=hg
  obtain⟨h1,h2,h3,h4,h5,h6⟩:=hg
  obtain⟨a',rfl⟩:∃m:Nat,a=m:=⟨a.toNat,by omega⟩
  obtain⟨k',rfl⟩:∃m:Nat,k=m:=⟨k.toNat,by omega⟩
  obtain⟨g,e,hb,hr⟩:=h.row.resolve_left (by omega)
  refine(hok g a' k' e hr rfl rfl (by omega) (by omega) (by omega) h5 (by simpa using h6)).mono ?_
  rintro _ w' ⟨rfl,hG,hR⟩
  refine⟨by unfold putE; rw[if_pos hg'],by subst e; exact hG,⟨h.room,h.nil,.inr ⟨g,e,hb,?_⟩⟩⟩
  unfold putF
  rw[if_pos hg']
  simpa using hR
 ·refine(hno (by unfold putGood at hg; omega) (h.row.imp (·.2) fun⟨g,e,_,_⟩=>⟨g,0,e⟩)).mono ?_
  rintro _ w' ⟨rfl,rfl⟩
  refine⟨by unfold putE; rw[if_neg hg],Only.refl _ _,?_⟩
  unfold putF
  rw[if_neg hg]
  exact h
theorem put_any(w:World)(B:Nat)(ao:Option Addr)(n cap:Nat)(f:Nat→Int)(a k z:Int)(h:Own w B ao n cap f)(hn:n≤140737488355328) :
  Calls Tryz.prog 118 #[.slice ao n cap,.int .i64 a,.int .i64 k,.int .i64 z] w (PutPost w B ao n cap a k z f):=
 put_post h a k z _ (fun g a' k' e hr ea ek h1 h2 h3 h4 h5=>by subst e ea ek; exact put_ok g 0 n cap a' k' z f w hr h.room hn h1 h2 h3 h4 h5)
  (fun hb hg=>put_no ao n cap a k z w hn hb hg h.room)
end Wd
namespace Wd
open Go.RowKit Byt Go.PlainAid
def rightAt(n:Nat)(a k most:Int):Prop:=1≤k∧k≤most∧0≤a∧a≤n - k
instance (n:Nat) (a k most:Int):Decidable (rightAt n a k most):=by unfold rightAt; infer_instance
def takeS(a k:Int)(f:Nat→Int):Int:=sumLE (fun i=>f (a.toNat+i)) k.toNat
def takeN(n:Nat)(a k:Int)(f:Nat→Int):Int:=if rightAt n a k 8 then if takeS a k f≤9223372036854775807 then takeS a k f else 0 else 0
def takeE(n:Nat)(a k:Int)(f:Nat→Int):Int:=if rightAt n a k 8 then if takeS a k f≤9223372036854775807 then 0 else 15 else 1
theorem take_post{w:World}{ao:Option Addr}{n cap:Nat}{f:Nat→Int}(h:Reads w ao n cap f)(a k:Int)(F:FuncId)
  (hok:∀(g off a' k':Nat),ao=some ⟨g,off,none⟩→(∀j,j < n→w.cell? ⟨g,off+j,none⟩=some (.int .u8 (f j)))→a=a'→k=k'→1≤k'→k'≤8→a'+k'≤n→Calls Tryz.prog F #[.slice ao n cap,.int .i64 a,.int .i64 k] w fun e w'=>
   e=.returned (takeVal (sumLE (fun i=>f (a'+i)) k'))∧w=w')
  (hno:(k < 1∨k > 8∨a < 0∨a > n - k)→Calls Tryz.prog F #[.slice ao n cap,.int .i64 a,.int .i64 k] w fun e w'=>e=.returned (.tuple #[.int .i64 0,.int .i64 1])∧w=w') :
  Calls Tryz.prog F #[.slice ao n cap,.int .i64 a,.int .i64 k] w fun e w'=>e=.returned (.tuple #[.int .i64 (takeN n a k f),.int .i64 (takeE n a k f)])∧w=w':=by
 by_cases hg:rightAt n a k 8
 ·have hg':=hg
  obtain⟨h1,h2,h3,h4⟩:=hg
  obtain⟨a',rfl⟩:∃m:Nat,a=m:=⟨a.toNat,by omega⟩
  obtain⟨k',rfl⟩:∃m:Nat,k=m:=⟨k.toNat,by omega⟩
  obtain⟨g,off,e,hr⟩:=h.2.2.resolve_left (by omega)
  refine(hok g off a' k' e hr rfl rfl (by omega) (by omega) (by omega)).mono ?_
  rintro _ w' ⟨rfl,rfl⟩
  refine⟨?_,rfl⟩
  unfold takeN takeE takeS takeVal
  rw[if_pos hg',if_pos hg',Int.toNat_natCast,Int.toNat_natCast]
  split <;> rfl
 ·refine(hno (by unfold rightAt at hg; omega)).mono ?_
  rintro _ w' ⟨rfl,rfl⟩
  refine⟨?_,rfl⟩
  unfold takeN takeE
  rw[if_neg hg,if_neg hg]
theorem take_any(w:World)(ao:Option Addr)(n cap:Nat)(f:Nat→Int)(a k:Int)(h:Reads w ao n cap f)(hf:∀i,i < n→0≤f i∧f i < 256)(hn:n≤140737488355328) :
  Calls Tryz.prog 158 #[.slice ao n cap,.int .i64 a,.int .i64 k] w fun e w'=>e=.returned (.tuple #[.int .i64 (takeN n a k f),.int .i64 (takeE n a k f)])∧w=w':=
 take_post h a k _ (fun g off a' k' e hr ea ek h1 h2 h3=>by subst e ea ek; exact take_ok g off n cap a' k' f w hr hf h.1 hn h1 h2 h3) (fun hb=>take_no ao n cap a k w hn hb)
def ptGood(n:Nat)(a k:Int)(s:ByteArray):Prop:=rightAt n a k 256∧(s.size:Int)≤k - 1
instance (n:Nat) (a k:Int) (s:ByteArray):Decidable (ptGood n a k s):=by unfold ptGood; infer_instance
end Wd
end Go.Proofs.YteaocagepfgfnaaGreatDoor
