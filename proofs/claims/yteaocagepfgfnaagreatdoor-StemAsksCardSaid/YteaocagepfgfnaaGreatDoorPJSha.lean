import Derived.WalkKit
import Derived.WalkSmall
import Derived.Deep.Draws
import Derived.Test.YteaocagepfgfnaaGreatDoorRows
import Derived.BigQuiet
import Derived.Deep.QuietTactic
import Derived.Lib.Hide
import Derived.Handy
import Derived.Orders
import Derived.Laws.CopyOwn
import Derived.Lib.QuietBelow
import Derived.Deep.WholeRow
set_option maxRecDepth 100000
set_option maxHeartbeats 8000000
namespace Go.Proofs.YteaocagepfgfnaaGreatDoor
namespace Sha
open Go.RowKit
theorem bits_or_comm(k:IntKind)(a b:Int):bits .or k a b=bits .or k b a:=by
 unfold bits; simp only[BitVec.or_comm]
def rotR(x n:Int):Int:=bits .or .u32 (x / 2 ^ n.toNat) (x * 2 ^ (32 - n).toNat % 4294967296)
def shR(x n:Int):Int:=x / 2 ^ n.toNat
def xo(a b:Int):Int:=bits .xor .u32 a b
def an(a b:Int):Int:=bits .and .u32 a b
def no(a:Int):Int:=bits .xor .u32 (if IntKind.u32.signed=true then -1 else IntKind.u32.max) a
def mixI(x i j k:Int):Int:=xo (xo (rotR x i) (rotR x j)) (rotR x k)
def mixS(x i j k:Int):Int:=xo (xo (rotR x i) (rotR x j)) (shR x k)
theorem masked:∀c:Fin 32,1≤c.val→bits .and .u64 (IntKind.u64.wrap (-(c.val:Int))) 31=32 - (c.val:Int):=by decide +kernel
theorem masked'(c:Int)(h0:1≤c)(h1:c≤31):bits .and .u64 (IntKind.u64.wrap (-c)) 31=32 - c:=by
 have:=masked ⟨c.toNat,by omega⟩ (by simp only[]; omega)
 simp only[] at this
 rwa [show((c.toNat:Nat):Int)=c from by omega] at this
theorem rot_eq(x c:Int):bits .or .u32 (x * 2 ^ (32 - c).toNat % 4294967296) (x / 2 ^ (32 - (32 - c)).toNat)=rotR x c:=by
 unfold rotR; rw[bits_or_comm,show(32 - (32 - c))=c from by omega]
structure S8 where
 a:Int
 b:Int
 c:Int
 d:Int
 e:Int
 f:Int
 g:Int
 h:Int
def s0:S8:=⟨1779033703,3144134277,1013904242,2773480762,1359893119,2600822924,528734635,1541459225⟩
def S8.vals(s:S8):Array Value:=#[.int .u32 s.a,.int .u32 s.b,.int .u32 s.c,.int .u32 s.d,.int .u32 s.e,.int .u32 s.f,.int .u32 s.g,.int .u32 s.h]
def p1(s:S8)(k w:Int):Int:=(s.h+mixI s.e 6 11 25+xo (an s.e s.f) (an (no s.e) s.g)+k+w) % 4294967296
def p2(s:S8):Int:=(mixI s.a 2 13 22+xo (xo (an s.a s.b) (an s.a s.c)) (an s.b s.c)) % 4294967296
def rnd(s:S8)(k w:Int):S8:=⟨(p1 s k w+p2 s) % 4294967296,s.a,s.b,s.c,(s.d+p1 s k w) % 4294967296,s.e,s.f,s.g⟩
def stp(s:S8)(K W:Nat→Int):Nat→S8
 | 0=>s
 | n+1=>rnd (stp s K W n) (K n) (W n)
def word(x0 x1 x2 x3:Int):Int:=((x0 * 256+x1) * 256+x2) * 256+x3
theorem or_nat(a b i:Nat)(hb:b < 2 ^ i):(a * 2 ^ i) ||| b=a * 2 ^ i+b:=by
 rw[Nat.mul_comm]; exact(Nat.two_pow_add_eq_or_of_lt hb a).symm
theorem or_step(a b:Int)(i:Nat)(ha:0≤a)(hb:0≤b)(h:a * 2 ^ i < 4294967296)(hi:b < 2 ^ i)(h32:b < 4294967296):bits .or .u32 (a * 2 ^ i) b=a * 2 ^ i+b:=by
 obtain⟨A,rfl⟩:=Int.eq_ofNat_of_zero_le ha
 obtain⟨B,rfl⟩:=Int.eq_ofNat_of_zero_le hb
 have h1:((A:Int) * 2 ^ i)=((A * 2 ^ i:Nat):Int):=by simp
 have h2:B < 2 ^ i:=by
  have h3:((B:Int)) < ((2 ^ i:Nat):Int):=by simpa using hi
  omega
 rw[h1] at h ⊢
 rw[u32_or_nat _ _ (by omega) (by omega),or_nat _ _ _ h2]
 exact Int.natCast_add _ _
theorem or_zero(b:Int)(hb:0≤b)(h:b < 4294967296):bits .or .u32 0 b=b:=by
 obtain⟨B,rfl⟩:=Int.eq_ofNat_of_zero_le hb
 have:=u32_or_nat 0 B (by omega) (by omega)
 simpa using this
theorem take_word(x0 x1 x2 x3:Int)(hx:(0≤x0∧x0 < 256)∧(0≤x1∧x1 < 256)∧(0≤x2∧x2 < 256)∧(0≤x3∧x3 < 256)) :
  bits .or .u32 (bits .or .u32 (bits .or .u32 (bits .or .u32 0 (x0 % 4294967296) * 256 % 4294967296) (x1 % 4294967296) * 256 % 4294967296) (x2 % 4294967296) * 256 % 4294967296) (x3 % 4294967296)=word x0 x1 x2 x3:=by
 obtain⟨⟨a0,b0⟩,⟨a1,b1⟩,⟨a2,b2⟩,⟨a3,b3⟩⟩:=hx
 rw[Int.emod_eq_of_lt (a:=x0) a0 (by omega),Int.emod_eq_of_lt (a:=x1) a1 (by omega),Int.emod_eq_of_lt (a:=x2) a2 (by omega),Int.emod_eq_of_lt (a:=x3) a3 (by omega)]
 rw[or_zero x0 a0 (by omega),Int.emod_eq_of_lt (a:=x0 * 256) (by omega) (by omega)]
 have e1:=or_step x0 x1 8 a0 a1 (by omega) (by omega) (by omega)
 have e2:=or_step (x0 * 256+x1) x2 8 (by omega) a2 (by omega) (by omega) (by omega)
 have e3:=or_step ((x0 * 256+x1) * 256+x2) x3 8 (by omega) a3 (by omega) (by omega) (by omega)
 simp only[Int.reducePow] at e1 e2 e3
 rw[e1,Int.emod_eq_of_lt (a:=(x0 * 256+x1) * 256) (by omega) (by omega),e2,Int.emod_eq_of_lt (a:=((x0 * 256+x1) * 256+x2) * 256) (by omega) (by omega),e3]
 rfl
def Dr(w w':World):Prop:=∃n,w'=w.drewN n
theorem Dr.refl(w:World):Dr w w:=⟨0,rfl⟩
theorem Dr.more{a b:World}(h:Dr a b)(n:Nat):Dr a (b.drewN n):=by
 obtain⟨m,rfl⟩:=h
 exact⟨m+n,World.drewN_drewN _ _ _⟩
theorem Dr.cell{a b:World}(h:Dr a b)(p:Addr):b.cell? p=a.cell? p:=by
 obtain⟨m,rfl⟩:=h; rfl
theorem Dr.get{a b:World}(h:Dr a b){Q:World→Prop}(k:∀n,Q (a.drewN n)):Q b:=by
 obtain⟨m,rfl⟩:=h; exact k m
def arr(n:Nat)(f:Nat→Value):Array Value:=Array.ofFn (fun i:Fin n=>f i.val)
theorem arr_size(n:Nat)(f:Nat→Value):(arr n f).size=n:=by simp[arr]
theorem arr_get{n:Nat}(f:Nat→Value){i:Nat}(h:i < n):(arr n f)[i]?=some (f i):=by simp[arr,h]
theorem arr_set(n:Nat)(f:Nat→Value)(j:Nat)(v:Value):(arr n f).setIfInBounds j v=arr n (fun i=>if i=j then v else f i):=by
 apply Array.ext_getElem?
 intro i
 rw[Array.getElem?_setIfInBounds]
 by_cases h:j=i
 ·subst h
  by_cases hn:j < n
  ·simp[arr,hn]
  ·simp[arr,hn]
 ·have h':¬ i=j:=fun e=>h e.symm
  by_cases hn:i < n
  ·simp[arr,hn,h,h']
  ·simp[arr,hn,h]
theorem arr_one(n:Nat)(f:Nat→Int):(arr n (fun i=>.int .u32 (f i))).all (·.oneCell')=true:=by
 rw[Array.all_eq_true]
 intro i hi
 simp[arr,Value.oneCell']
theorem arr_one8(n:Nat)(f:Nat→Int):(arr n (fun i=>.int .u8 (f i))).all (·.oneCell')=true:=by
 rw[Array.all_eq_true]
 intro i hi
 simp[arr,Value.oneCell']
theorem arr_congr{n:Nat}{f g:Nat→Value}(h:∀i,i < n→f i=g i):arr n f=arr n g:=by
 unfold arr
 congr 1
 funext i
 exact h i.val i.isLt
def wd(x:Nat→Int)(t:Nat):Int:=word (x (4 * t)) (x (4 * t+1)) (x (4 * t+2)) (x (4 * t+3))
def ws0(x:Nat→Int)(k:Nat):Nat→Int:=fun t=>if t < k then wd x t else 0
def nextW(f:Nat→Int)(t:Nat):Int:=(mixS (f (t - 2)) 17 19 10+f (t - 7)+mixS (f (t - 15)) 7 18 3+f (t - 16)) % 4294967296
def ws(x:Nat→Int):Nat→Nat→Int
 | 0=>ws0 x 16
 | k+1=>fun t=>if t=16+k then nextW (ws x k) (16+k) else ws x k t
theorem ws0_next(x:Nat→Int)(k i:Nat):ws0 x (k+1) i=if i=k then wd x k else ws0 x k i:=by
 unfold ws0
 by_cases h:i=k
 ·subst h; simp
 ·have:i < k+1↔i < k:=by omega
  simp[h,this]
theorem ws_next(x:Nat→Int)(k i:Nat)(hk:16≤k):ws x (k+1 - 16) i=if i=k then nextW (ws x (k - 16)) k else ws x (k - 16) i:=by
 have e:k+1 - 16=(k - 16)+1:=by omega
 have e2:16+(k - 16)=k:=by omega
 rw[e,ws,e2]
def vu32(f:Nat→Int):Nat→Value:=fun i=>.int .u32 (f i)
def vu8(f:Nat→Int):Nat→Value:=fun i=>.int .u8 (f i)
theorem Dr.store{L:World}{A:Array Value}{t:TypeId}{wr:World}(h:Dr (L.alloc (.cells A t)) wr)(j:Nat)(v:Value) :
  Dr (L.alloc (.cells (A.setIfInBounds j v) t)) (wr.setCell ⟨L.heap.size,j,none⟩ v):=by
 obtain⟨n,rfl⟩:=h
 refine⟨n,?_⟩
 rw[←World.setCell_alloc_at _ _ _ _ _ rfl]
 rfl
end Sha
namespace Sha
open Go.RowKit
theorem rot_any(x c:Int)(w:World)(h0:1≤c)(h1:c≤31) :
  Calls Tryz.prog 183 #[.int .u32 x,.int .i64 (-c)] w fun e w'=>e=.returned (.int .u32 (rotR x c))∧w=w':=by
 have hm:=masked' c h0 h1
 have he:=rot_eq x c
 go_enter Tryz.func183,Tryz.ntmps183
 go_wp2
 go_ret
 exact⟨rfl,rfl⟩
theorem mix_any(x i j k:Int)(w:World)(i0:1≤i)(i1:i≤31)(j0:1≤j)(j1:j≤31)(k0:1≤k)(k1:k≤31) :
  Calls Tryz.prog 180 #[.int .u32 x,.int .i64 i,.int .i64 j,.int .i64 k] w fun e w'=>e=.returned (.int .u32 (mixI x i j k))∧w=w':=by
 go_enter Tryz.func180,Tryz.ntmps180
 go_wp2_with (go_at_call 183; refine(rot_any _ _ _ (by omega) (by omega)).mono ?_; rintro e w' ⟨rfl,rfl⟩)
 go_ret
 exact⟨rfl,rfl⟩
theorem mixs_any(x i j k:Int)(w:World)(i0:1≤i)(i1:i≤31)(j0:1≤j)(j1:j≤31)(k0:1≤k)(k1:k≤31) :
  Calls Tryz.prog 182 #[.int .u32 x,.int .i64 i,.int .i64 j,.int .i64 k] w fun e w'=>e=.returned (.int .u32 (mixS x i j k))∧∃n,w'=w.drewN n:=by
 go_enter Tryz.func182,Tryz.ntmps182
 go_wp2_with (go_at_call 183; refine(rot_any _ _ _ (by omega) (by omega)).mono ?_; rintro e w' ⟨rfl,rfl⟩)
 go_quiet ((go_at_call 183; exact Calls.quiet_of_same ((rot_any _ _ _ (by omega) (by omega)).mono fun _ _ h=>⟨h.1,h.2.symm⟩)))
 go_wp2
 go_ret
 exact⟨rfl,_,rfl⟩
theorem roots8_any(w:World) :
  Calls Tryz.prog 148 #[] w fun e w'=>e=.returned (.agg s0.vals)∧Below w.heap.size w w':=by
 unfold S8.vals s0
 go_enter Tryz.func148,Tryz.ntmps148
 go_wp2
 go_returns
 exact⟨rfl,(Below.refl _ _).alloc (Nat.le_refl _) _⟩
theorem take_any(b off len cap:Nat)(x0 x1 x2 x3:Int)(w:World)(hl:4≤len)(_hc:len≤cap)
  (c0:w.cell? ⟨b,off,none⟩=some (.int .u8 x0)) (c1:w.cell? ⟨b,off+1,none⟩=some (.int .u8 x1)) (c2:w.cell? ⟨b,off+2,none⟩=some (.int .u8 x2)) (c3:w.cell? ⟨b,off+3,none⟩=some (.int .u8 x3))
  (hx:(0≤x0∧x0 < 256)∧(0≤x1∧x1 < 256)∧(0≤x2∧x2 < 256)∧(0≤x3∧x3 < 256)) :
  Calls Tryz.prog 181 #[.slice (some ⟨b,off,none⟩) len cap] w fun e w'=>e=.returned (.int .u32 (word x0 x1 x2 x3))∧w=w':=by
 rw[←take_word x0 x1 x2 x3 hx]
 clear hx
 go_enter Tryz.func181,Tryz.ntmps181
 go_wp2
 go_rounds 5
 go_ret
 exact⟨rfl,rfl⟩
theorem put_any(b off len cap:Nat)(x:Int)(w:World)(hl:4≤len)(_hc:len≤cap)
  (c0:∃v,w.cell? ⟨b,off,none⟩=some v) (c1:∃v,w.cell? ⟨b,off+1,none⟩=some v) (c2:∃v,w.cell? ⟨b,off+2,none⟩=some v) (c3:∃v,w.cell? ⟨b,off+3,none⟩=some v)
  (f0:w.frozen? ⟨b,off,none⟩=false) (f1:w.frozen? ⟨b,off+1,none⟩=false) (f2:w.frozen? ⟨b,off+2,none⟩=false) (f3:w.frozen? ⟨b,off+3,none⟩=false) :
  Calls Tryz.prog 151 #[.slice (some ⟨b,off,none⟩) len cap,.int .u32 x] w fun e w'=>e=.returned (.tuple #[])∧
   w'=(((w.setCell ⟨b,off,none⟩ (.int .u8 (x / 16777216 % 256))).setCell ⟨b,off+1,none⟩ (.int .u8 (x / 65536 % 256))).setCell ⟨b,off+2,none⟩ (.int .u8 (x / 256 % 256))).setCell ⟨b,off+3,none⟩ (.int .u8 (x % 256)):=by
 obtain⟨v0,c0⟩:=c0
 obtain⟨v1,c1⟩:=c1
 obtain⟨v2,c2⟩:=c2
 obtain⟨v3,c3⟩:=c3
 go_enter Tryz.func151,Tryz.ntmps151
 go_wp2
 go_rounds 5
 go_returns
 exact⟨rfl,rfl⟩
theorem churn_any(s:S8)(W:Array Value)(w:World)(K wt:Nat→Int) 
  (hK:∀k,k < 64→w.cell? ⟨0,k,none⟩=some (.int .u32 (K k))) (hW:∀k,k < 64→W[k]?=some (.int .u32 (wt k))) (hz:0 < w.heap.size) :
  Calls Tryz.prog 175 #[.agg s.vals,.agg W] w fun e w'=>e=.returned (.agg (stp s K wt 64).vals)∧Below w.heap.size w w':=by
 have HK:=Lib.hid hK
 have HW:=Lib.hid hW
 clear hK hW
 obtain⟨z,hz0⟩:∃z,z=stp s K wt 64:=⟨_,rfl⟩
 rw[←hz0]
 have HZ:=Lib.hid hz0
 clear hz0
 unfold S8.vals
 go_enter Tryz.func175,Tryz.ntmps175
 go_wp2
 go_quiet (fail)
 go_wp2
 go_quiet (fail)
 go_wp2
 go_loopw [5,6,7,8,9,10,11,12,32] (fun a b c d e f g h i wr=>∃k:Nat,k≤64∧i=.int .i64 k∧a=.int .u32 (stp s K wt k).a∧b=.int .u32 (stp s K wt k).b∧c=.int .u32 (stp s K wt k).c∧d=.int .u32 (stp s K wt k).d∧e=.int .u32 (stp s K wt k).e∧f=.int .u32 (stp s K wt k).f∧g=.int .u32 (stp s K wt k).g∧h=.int .u32 (stp s K wt k).h∧
  Dr (((w.alloc (.cells #[.int .u32 s.a,.int .u32 s.b,.int .u32 s.c,.int .u32 s.d,.int .u32 s.e,.int .u32 s.f,.int .u32 s.g,.int .u32 s.h] 189)).alloc (.cells W 224)).alloc (.cells #[.int .u32 0,.int .u32 0,.int .u32 0,.int .u32 0,.int .u32 0,.int .u32 0,.int .u32 0,.int .u32 0] 189)) wr)
  (fun _ _ _ _ _ _ _ _ i _=>64 - (intOf i).toNat)
 case atStart=>
  exact⟨0,Nat.zero_le _,rfl,rfl,rfl,rfl,rfl,rfl,rfl,rfl,rfl,((Dr.refl _).more _).more _⟩
 case round=>
  obtain⟨k,hk,rfl,rfl,rfl,rfl,rfl,rfl,rfl,rfl,rfl,hD⟩:=hrel
  by_cases hlt:k < 64
  ·have gK:wr.cell? ⟨0,k,none⟩=some (.int .u32 (K k)):=by
    rw[hD.cell,World.cell?_alloc_old,World.cell?_alloc_old,World.cell?_alloc_old,HK.out k hlt]
    all_goals simp
    all_goals omega
   have gW:wr.cell? ⟨w.heap.size+1,k,none⟩=some (.int .u32 (wt k)):=by
    have h:=HW.out k hlt
    rw[hD.cell]
    simp[go_sem,h]
   go_wp2
   go_quiet ((go_at_call 180; exact Calls.quiet_of_same ((mix_any _ _ _ _ _ (by omega) (by omega) (by omega) (by omega) (by omega) (by omega)).mono fun _ _ h=>⟨h.1,h.2.symm⟩)))
   go_wp2_with (go_at_call 180; refine(mix_any _ _ _ _ _ (by omega) (by omega) (by omega) (by omega) (by omega) (by omega)).mono ?_; rintro e w' ⟨rfl,rfl⟩)
   go_roundw
   case rel=>exact⟨k+1,by omega,by go_num,rfl,rfl,rfl,rfl,rfl,rfl,rfl,rfl,hD.more _⟩
   case measure=>simp[intOf]; omega
  ·obtain rfl:k=64:=by omega
   clear HK HW
   generalize hg:stp s K wt 64=z'
   obtain rfl:z=z':=HZ.out.trans hg
   clear hg HZ
   refine hD.get fun m=>?_
   go_wp2
   go_returns
   refine⟨rfl,?_⟩
   iterate 8 refine Below.setCell ?_ (by simp only[]; omega) _
   exact below_drewN ((((Below.refl _ _).alloc (Nat.le_refl _) _).alloc (by simp) _).alloc (by simp; omega) _) _
end Sha
namespace QuietTail
open Go
variable {P:Program}
def backB(ops:Array Oper)(n:Nat):Bool:=
 (List.range ops.size).all fun i=>match ops[i]? with
  | some o=>(o.after.all fun e=>decide (e.on < i)) && (if i < n then o.guard == none else (List.range n).all (fun j=>o.after.any fun e=>Region.binds .any e && e.on == j) && (i == n || o.after.any fun e=>Region.binds .any e && e.on == i - 1))
  | none=>true
structure Back(ops:Array Oper)(n:Nat):Prop where
 back:∀(i:Nat) (o:Oper),ops[i]?=some o→∀e ∈ o.after,e.on < i
 free:∀(i:Nat) (o:Oper),ops[i]?=some o→i < n→o.guard=none
 wait:∀(i:Nat) (o:Oper),ops[i]?=some o→n≤i→∀j,j < n→∃e ∈ o.after,Region.binds .any e=true∧e.on=j
 chain:∀(i:Nat) (o:Oper),ops[i]?=some o→n < i→∃e ∈ o.after,Region.binds .any e=true∧e.on=i - 1
theorem back_of{ops:Array Oper}{n:Nat}(h:backB ops n=true):Back ops n:=by
 have key:∀(i:Nat) (o:Oper),ops[i]?=some o→(o.after.all fun e=>decide (e.on < i))=true∧(if i < n then o.guard == none else (List.range n).all (fun j=>o.after.any fun e=>Region.binds .any e && e.on == j) && (i == n || o.after.any fun e=>Region.binds .any e && e.on == i - 1))=true:=by
  intro i o ho
  have hi:i < ops.size:=(Array.getElem?_eq_some_iff.1 ho).1
  have h1:=List.all_eq_true.1 h i (List.mem_range.2 hi)
  simp only[ho,Bool.and_eq_true] at h1
  exact h1
 refine⟨fun i o ho e he=>?_,fun i o ho hi=>?_,fun i o ho hi j hj=>?_,fun i o ho hi=>?_⟩
 ·have h1:=Array.all_eq_true'.1 (key i o ho).1 e he
  simpa using h1
 ·have h1:=(key i o ho).2
  rw[if_pos hi] at h1
  simpa using h1
 ·have h1:=(key i o ho).2
  rw[if_neg (by omega)] at h1
  have h2:=List.all_eq_true.1 (Bool.and_eq_true_iff.1 h1).1 j (List.mem_range.2 hj)
  obtain⟨e,he,hb⟩:=Array.any_eq_true'.1 h2
  simp only[Bool.and_eq_true,beq_iff_eq] at hb
  exact⟨e,he,hb.1,hb.2⟩
 ·have h1:=(key i o ho).2
  rw[if_neg (by omega)] at h1
  have h2:=(Bool.and_eq_true_iff.1 h1).2
  rw[show(i == n)=false by rw[beq_eq_false_iff_ne]; omega,Bool.false_or] at h2
  obtain⟨e,he,hb⟩:=Array.any_eq_true'.1 h2
  simp only[Bool.and_eq_true,beq_iff_eq] at hb
  exact⟨e,he,hb.1,hb.2⟩
theorem seq{ops:Array Oper}{n:Nat}{Q:Exit→Act→World→Prop}(B:Back ops n):∀(l:List Oper) (k f:Nat) (listed:Array Bool) (a:Act) (w:World),
  n≤k→k+l.length=ops.size→l.length≤f→(∀j,l[j]?=ops[k+j]?)→listed.size=ops.size→(∀i,i < k→listed.getD i false=true)→(∀i,k≤i→listed.getD i false=false)→
  wpList P ops Q l a w→wpAny P .any ops Q f listed a w:=by
 intro l
 induction l with
 | nil=>
  intro k f listed a w hk hlen hf hl hs h1 h2 h
  have hr:Region.ready .any ops listed=[]:=by
   cases hc:Region.ready .any ops listed with
   | nil=>rfl
   | cons i r=>
    have hm:i ∈ Region.ready .any ops listed:=by rw[hc]; simp
    obtain⟨hun,o,ho,_⟩:=mem_ready.1 hm
    have hi:i < ops.size:=(Array.getElem?_eq_some_iff.1 ho).1
    have:=h1 i (by simp at hlen; omega)
    have hi':i < listed.size:=by omega
    simp[hi'] at hun this
    rw[this] at hun; cases hun
  cases f with
  | zero=>exact⟨hr,h⟩
  | succ f=>exact⟨fun _=>h,fun i hi=>by rw[hr] at hi; cases hi⟩
 | cons o l ih=>
  intro k f listed a w hk hlen hf hl hs h1 h2 h
  have h0:ops[k]?=some o:=by simpa using (hl 0).symm
  have hks:k < ops.size:=(Array.getElem?_eq_some_iff.1 h0).1
  obtain⟨f,rfl⟩:∃g,f=g+1:=⟨f - 1,by simp at hf; omega⟩
  have hkr:k ∈ Region.ready .any ops listed:=by
   refine mem_ready.2 ⟨?_,o,h0,fun e he _=>h1 e.on (B.back k o h0 e he)⟩
   have:=h2 k (Nat.le_refl _)
   have hk':k < listed.size:=by omega
   simp[hk'] at this ⊢; exact this
  refine⟨fun hr=>(by rw[hr] at hkr; cases hkr),fun i hi=>?_⟩
  obtain⟨hun,oi,hoi,hall⟩:=mem_ready.1 hi
  have his:i < ops.size:=(Array.getElem?_eq_some_iff.1 hoi).1
  have hik:i=k:=by
   rcases Nat.lt_trichotomy i k with hlt | heq | hgt
   ·have:=h1 i hlt
    have hi':i < listed.size:=by omega
    simp[hi'] at hun this
    rw[this] at hun; cases hun
   ·exact heq
   ·obtain⟨e,he,hb,hon⟩:=B.chain i oi hoi (by omega)
    have:=hall e he hb
    rw[hon,h2 (i - 1) (by omega)] at this
    cases this
  subst hik
  have hw:wpOp P ops Q i (wpList P ops Q l) a w:=by unfold wpOp; simp only[h0]; exact h
  refine wpOp_mono (fun a' w' h'=>?_) hw
  refine ih (i+1) f (listed.setIfInBounds i true) a' w' (by omega) (by simp only[List.length_cons] at hlen; omega) (by simp only[List.length_cons] at hf; omega)
   (fun j=>by have:=hl (j+1); simpa[Nat.add_assoc,Nat.add_comm 1 j] using this) (by simpa using hs) (fun j hj=>?_) (fun j hj=>?_) h'
  ·by_cases hji:i=j
   ·subst hji
    have hi':i < listed.size:=by omega
    simp[hi']
   ·have:=h1 j (by omega)
    simp only[Array.getD_eq_getD_getElem?,Array.getElem?_setIfInBounds,if_neg hji] at this ⊢
    exact this
  ·have hji:¬ i=j:=by omega
   have:=h2 j (by omega)
   simp only[Array.getD_eq_getD_getElem?,Array.getElem?_setIfInBounds,if_neg hji] at this ⊢
   exact this
theorem getD_replicate_false'(m j:Nat):(Array.replicate m false).getD j false=false:=by
 rcases Nat.lt_or_ge j m with h | h
 ·simp[h]
 ·simp[h]
structure Inv'(l:List Oper)(n:Nat)(listed head:Array Bool):Prop where
 size:listed.size=l.length
 hsize:head.size=n
 same:∀i,i < n→listed.getD i false=head.getD i false
 tail:∀i,n≤i→listed.getD i false=false
theorem getD_tf{listed:Array Bool}{i:Nat}(hi:i < listed.size):listed.getD i true=listed.getD i false:=by simp[hi]
theorem Inv'.ready{l:List Oper}{n:Nat}{listed head:Array Bool}(v:Inv' l n listed head)(B:Back l.toArray n)(hn:n≤l.length){i:Nat}(hi:i < n) :
  i ∈ Region.ready .any l.toArray listed↔i ∈ Region.ready .any (l.take n).toArray head:=by
 have e:(l.take n).toArray[i]?=l.toArray[i]?:=by simp[hi]
 have hl:i < listed.size:=by have:=v.size; omega
 have hh:i < head.size:=by have:=v.hsize; omega
 rw[mem_ready,mem_ready,e,getD_tf hl,getD_tf hh,v.same i hi]
 constructor
 ·rintro⟨h1,o,ho,h2⟩
  exact⟨h1,o,ho,fun e' he hb=>(v.same e'.on (Nat.lt_trans (B.back i o ho e' he) hi)).symm.trans (h2 e' he hb)⟩
 ·rintro⟨h1,o,ho,h2⟩
  exact⟨h1,o,ho,fun e' he hb=>(v.same e'.on (Nat.lt_trans (B.back i o ho e' he) hi)).trans (h2 e' he hb)⟩
theorem Inv'.least{l:List Oper}{n:Nat}{listed head:Array Bool}(v:Inv' l n listed head)(B:Back l.toArray n)(hn:n≤l.length) :
  (∀i,i < n→head.getD i false=true)∨∃i,i < n∧i ∈ Region.ready .any l.toArray listed:=by
 by_cases h:∃i,i < n∧head.getD i false=false
 ·right
  have least:∀(k i:Nat),i≤k→i < n→head.getD i false=false→∃j,j < n∧head.getD j false=false∧∀m,m < j→head.getD m false=true:=by
   intro k
   induction k with
   | zero=>intro i hk hi hf; exact⟨i,hi,hf,fun m hm=>by omega⟩
   | succ k ih=>
    intro i hk hi hf
    by_cases hm:∃m,m < i∧head.getD m false=false
    ·obtain⟨m,hmi,hmf⟩:=hm
     exact ih m (by omega) (by omega) hmf
    ·refine⟨i,hi,hf,fun m hmi=>?_⟩
     cases hv:head.getD m false with
     | true=>rfl
     | false=>exact absurd ⟨m,hmi,hv⟩ hm
  obtain⟨i,hi,hf⟩:=h
  obtain⟨j,hj,hjf,hall⟩:=least i i (Nat.le_refl _) hi hf
  have ho:l.toArray[j]?=some l[j]:=by simp[Nat.lt_of_lt_of_le hj hn]
  have hl:j < listed.size:=by have:=v.size; omega
  refine⟨j,hj,mem_ready.2 ⟨by rw[getD_tf hl,v.same j hj]; exact hjf,l[j],ho,fun e he _=>?_⟩⟩
  have hlt:=B.back j _ ho e he
  rw[v.same e.on (by omega)]
  exact hall e.on hlt
 ·left
  intro i hi
  cases hv:head.getD i false with
  | true=>rfl
  | false=>exact absurd ⟨i,hi,hv⟩ h
theorem Inv'.set{l:List Oper}{n i:Nat}{listed head:Array Bool}(v:Inv' l n listed head)(hi:i < n)(hn:n≤l.length):Inv' l n (listed.setIfInBounds i true) (head.setIfInBounds i true):=by
 refine⟨by simpa using v.size,by simpa using v.hsize,fun j hj=>?_,fun j hj=>?_⟩
 ·by_cases hij:i=j
  ·subst hij
   have h1:=v.size
   have h2:=v.hsize
   simp[show i < listed.size from by omega,show i < head.size from by omega]
  ·have:=v.same j hj
   simp only[Array.getD_eq_getD_getElem?,Array.getElem?_setIfInBounds,if_neg hij] at this ⊢
   exact this
 ·have hij:¬ i=j:=by omega
  have:=v.tail j hj
  simp only[Array.getD_eq_getD_getElem?,Array.getElem?_setIfInBounds,if_neg hij] at this ⊢
  exact this
theorem walk{C:World→Prop}{l:List Oper}{n:Nat}{Q:Exit→Act→World→Prop}(B:Back l.toArray n)(hn:n≤l.length):∀(f:Nat) (listed head:Array Bool) (a:Act) (w:World),Inv' l n listed head→C w→
  wpAnyQ P .any (l.take n).toArray C (fun a'=>∀w',C w'→wpList P l.toArray Q (l.drop n) a' w') f head a→wpAny P .any l.toArray Q (f+(l.length - n)) listed a w:=by
 intro f
 induction f with
 | zero=>
  intro listed head a w v hw h
  rcases v.least B hn with hall | ⟨i,hi,hr⟩
  ·exact seq B (l.drop n) n _ listed a w (Nat.le_refl _) (by simp; omega) (by simp) (fun j=>by simp) (by simpa using v.size) (fun i hi=>(v.same i hi).trans (hall i hi)) v.tail (h.2 w hw)
  ·have:=(v.ready B hn hi).1 hr
   rw[h.1] at this; cases this
 | succ f ih=>
  intro listed head a w v hw h
  rcases v.least B hn with hall | ⟨i,hi,hr⟩
  ·have h0:Region.ready .any (l.take n).toArray head=[]:=by
    cases hc:Region.ready .any (l.take n).toArray head with
    | nil=>rfl
    | cons j r=>
     have hm:j ∈ Region.ready .any (l.take n).toArray head:=by rw[hc]; simp
     obtain⟨hun,o,ho,_⟩:=mem_ready.1 hm
     have hj:j < (l.take n).toArray.size:=(Array.getElem?_eq_some_iff.1 ho).1
     have hjn:j < n:=by simp at hj; omega
     rw[getD_tf (by have:=v.hsize; omega),hall j hjn] at hun
     cases hun
   exact seq B (l.drop n) n _ listed a w (Nat.le_refl _) (by simp; omega) (by simp) (fun j=>by simp) (by simpa using v.size) (fun i hi=>(v.same i hi).trans (hall i hi)) v.tail (h.1 h0 w hw)
  ·rw[show f+1+(l.length - n)=(f+(l.length - n))+1 by omega]
   refine⟨fun h0=>(by rw[h0] at hr; cases hr),fun j hj=>?_⟩
   obtain⟨hun,oj,hoj,hallj⟩:=mem_ready.1 hj
   have hjn:j < n:=by
    rcases Nat.lt_or_ge j n with hlt | hge
    ·exact hlt
    ·obtain⟨e,he,hb,hon⟩:=B.wait j oj hoj hge i (by omega)
     have h1:=hallj e he hb
     obtain⟨hun',_⟩:=mem_ready.1 hr
     rw[getD_tf (by have:=v.size; omega)] at hun'
     rw[hon,hun'] at h1
     cases h1
   have hq:=h.2 j ((v.ready B hn hjn).1 hj)
   have hq':qOp P l.toArray C j (wpAnyQ P .any (l.take n).toArray C (fun a'=>∀w',C w'→wpList P l.toArray Q (l.drop n) a' w') f (head.setIfInBounds j true)) a:=by
    have e:(l.take n).toArray[j]?=l.toArray[j]?:=by simp[hjn]
    unfold qOp at hq ⊢
    rw[e,hoj] at hq
    rw[hoj]
    have hg:=B.free j oj hoj hjn
    simp only[Region.wanted,hg,if_true] at hq ⊢
    exact hq
   exact wpOp_of_qOp hw (fun a' w' hw' h'=>ih _ _ a' w' (v.set hjn hn) hw' h') hq'
theorem region{C:World→Prop}{id n:Nat}{l:List Oper}{Q:Exit→Act→World→Prop}{a:Act}{w:World}(hm:P.follows .mixedOrders=true)(hn:n≤l.length)(hB:backB l.toArray n=true)
  (hlex:Region.lexB .any (l.take n).toArray=true) (hC:C { w with drawn:=w.drawn+1 })
  (h:wpQuiet P (l.take n).toArray C (fun a'=>∀w',C w'→wpList P l.toArray Q (l.drop n) a' w') (l.take n) a):(Code.region id l.toArray true).wp P Q a w:=by
 have B:=back_of hB
 simp only[Region.lexB,Bool.and_eq_true] at hlex
 refine wp_region_any hm ?_
 have H:=wpAnyQ_lex (C:=C) (md:=.any) hlex.1 (l.take n) 0 (Array.replicate (l.take n).toArray.size false) a (by simp) (by simpa using hlex.2) h
 have hlen:(l.take n).length=n:=by simp; omega
 rw[hlen] at H
 have V:Inv' l n (Array.replicate l.toArray.size false) (Array.replicate (l.take n).toArray.size false):=by
  refine⟨by simp,by simp; omega,fun i hi=>?_,fun i hi=>?_⟩
  ·rw[getD_replicate_false',getD_replicate_false']
  ·rw[getD_replicate_false']
 have R:=walk (Q:=Q) B hn n _ _ a { w with drawn:=w.drawn+1 } V hC H
 rw[show n+(l.length - n)=l.toArray.size by simp; omega] at R
 exact R
def cnt(L:Nat→Bool):Nat→Nat
 | 0=>0
 | n+1=>cnt L n+(if L n then 0 else 1)
theorem cnt_le{L M:Nat→Bool}(h:∀i,L i=true→M i=true):∀n,cnt M n≤cnt L n
 | 0=>Nat.le_refl _
 | n+1=>by
  have ih:=cnt_le h n
  simp only[cnt]
  by_cases hl:L n=true
  ·rw[if_pos hl,if_pos (h n hl)]; omega
  ·rw[if_neg hl]; split <;> omega
theorem cnt_lt{L M:Nat→Bool}(h:∀i,L i=true→M i=true){i:Nat}(hi:L i=false)(hm:M i=true):∀n,i < n→cnt M n+1≤cnt L n
 | 0,hn=>by omega
 | n+1,hn=>by
  simp only[cnt]
  by_cases hin:i=n
  ·subst hin
   have:=cnt_le h i
   rw[if_pos hm,hi,if_neg (by simp)]; omega
  ·have ih:=cnt_lt h hi hm n (by omega)
   by_cases hl:L n=true
   ·rw[if_pos hl,if_pos (h n hl)]; omega
   ·rw[if_neg hl]; split <;> omega
theorem cnt_zero{L:Nat→Bool}:∀n,cnt L n=0→∀i,i < n→L i=true
 | 0,_,i,hi=>by omega
 | n+1,h,i,hi=>by
  simp only[cnt] at h
  by_cases hl:L n=true
  ·rw[if_pos hl] at h
   by_cases hin:i=n
   ·subst hin; exact hl
   ·exact cnt_zero n (by omega) i (by omega)
  ·rw[if_neg hl] at h; omega
theorem cnt_all:∀n,cnt (fun _=>false) n=n
 | 0=>rfl
 | n+1=>by simp only[cnt]; rw[cnt_all n]; simp
theorem walkInv{l:List Oper}{n:Nat}{Q:Exit→Act→World→Prop}{Inv:(Nat→Bool)→Act→World→Prop}(B:Back l.toArray n)(hn:n≤l.length)
  (hstep:∀(i:Nat) (o:Oper),i < n→l[i]?=some o→∀(L:Nat→Bool) (a:Act) (w:World),Inv L a w→L i=false→(∀j,(o.after.any fun e=>Region.binds .any e && e.on == j)=true→L j=true)→
   o.wp P a w (fun a' w'=>Inv (fun j=>j == i || L j) a' w') Q)
  (hend:∀(L:Nat→Bool) (a:Act) (w:World),(∀i,i < n→L i=true)→Inv L a w→wpList P l.toArray Q (l.drop n) a w) :
  ∀(f:Nat) (listed:Array Bool) (a:Act) (w:World),listed.size=l.length→(∀i,n≤i→listed.getD i false=false)→cnt (fun i=>listed.getD i false) n≤f→Inv (fun i=>listed.getD i false) a w→
   wpAny P .any l.toArray Q (f+(l.length - n)) listed a w:=by
 intro f
 induction f with
 | zero=>
  intro listed a w hs ht hc h
  have hall:=cnt_zero n (Nat.le_zero.1 hc)
  exact seq B (l.drop n) n _ listed a w (Nat.le_refl _) (by simp; omega) (by simp) (fun j=>by simp) (by simpa using hs) hall ht (hend _ a w hall h)
 | succ f ih=>
  intro listed a w hs ht hc h
  have V:Inv' l n listed (listed.extract 0 n):=⟨hs,by simp; omega,fun i hi=>by simp only[Array.getD_eq_getD_getElem?,Array.getElem?_extract]; rw[if_pos (by omega)]; simp,ht⟩
  rcases V.least B hn with hall | ⟨i,hi,hr⟩
  ·have hall':∀i,i < n→listed.getD i false=true:=fun i hi=>(V.same i hi).trans (hall i hi)
   exact seq B (l.drop n) n _ listed a w (Nat.le_refl _) (by simp; omega) (by simp) (fun j=>by simp) (by simpa using hs) hall' ht (hend _ a w hall' h)
  ·rw[show f+1+(l.length - n)=(f+(l.length - n))+1 by omega]
   refine⟨fun h0=>(by rw[h0] at hr; cases hr),fun j hj=>?_⟩
   obtain⟨hun,oj,hoj,hallj⟩:=mem_ready.1 hj
   have hjl:j < l.length:=by have:=(Array.getElem?_eq_some_iff.1 hoj).1; simpa using this
   have hunf:listed.getD j false=false:=by rw[getD_tf (by omega)] at hun; exact hun
   have hjn:j < n:=by
    rcases Nat.lt_or_ge j n with hlt | hge
    ·exact hlt
    ·obtain⟨e,he,hb,hon⟩:=B.wait j oj hoj hge i (by omega)
     have h1:=hallj e he hb
     obtain⟨hun',_⟩:=mem_ready.1 hr
     rw[getD_tf (by omega)] at hun'
     rw[hon,hun'] at h1
     cases h1
   have hg:=B.free j oj hoj hjn
   have hw:=hstep j oj hjn (by simpa using hoj) (fun i=>listed.getD i false) a w h hunf (fun j hj=>by
    obtain⟨e,he,hb⟩:=Array.any_eq_true'.1 hj
    simp only[Bool.and_eq_true,beq_iff_eq] at hb
    exact hb.2 ▸ hallj e he hb.1)
   unfold wpOp
   simp only[hoj,Region.wanted,hg,if_true]
   left
   refine Oper.wp_mono (fun a' w' h'=>?_) hw
   have hset:∀k,(listed.setIfInBounds j true).getD k false=(k == j || listed.getD k false):=fun k=>by
    by_cases hk:j=k
    ·subst hk; simp[show j < listed.size by omega]
    ·have hk':(k == j)=false:=by simp; omega
     simp only[Array.getD_eq_getD_getElem?,Array.getElem?_setIfInBounds,if_neg hk,hk',Bool.false_or]
   refine ih _ a' w' (by simpa using hs) (fun k hk=>?_) ?_ (by rw[funext hset]; exact h')
   ·rw[hset k,ht k hk]; simp; omega
   ·have:=cnt_lt (L:=fun i=>listed.getD i false) (M:=fun i=>(listed.setIfInBounds j true).getD i false) (fun k hk=>by rw[hset k,hk]; simp) hunf (by rw[hset j]; simp) n hjn
    omega
theorem regionInv{id n:Nat}{l:List Oper}{Q:Exit→Act→World→Prop}{a:Act}{w:World}{Inv:(Nat→Bool)→Act→World→Prop}(hm:P.follows .mixedOrders=true)(hn:n≤l.length)(hB:backB l.toArray n=true)
  (hstart:Inv (fun _=>false) a { w with drawn:=w.drawn+1 })
  (hstep:∀(i:Nat) (o:Oper),i < n→l[i]?=some o→∀(L:Nat→Bool) (a:Act) (w:World),Inv L a w→L i=false→(∀j,(o.after.any fun e=>Region.binds .any e && e.on == j)=true→L j=true)→
   o.wp P a w (fun a' w'=>Inv (fun j=>j == i || L j) a' w') Q)
  (hend:∀(L:Nat→Bool) (a:Act) (w:World),(∀i,i < n→L i=true)→Inv L a w→wpList P l.toArray Q (l.drop n) a w):(Code.region id l.toArray true).wp P Q a w:=by
 have B:=back_of hB
 refine wp_region_any hm ?_
 have e:(fun i=>(Array.replicate l.toArray.size false).getD i false)=fun _=>false:=by
  funext i; exact getD_replicate_false' _ _
 have R:=walkInv (Q:=Q) B hn hstep hend n (Array.replicate l.toArray.size false) a { w with drawn:=w.drawn+1 } (by simp) (fun i _=>getD_replicate_false' _ _) (by rw[e,cnt_all]; exact Nat.le_refl _) (by rw[e]; exact hstart)
 rw[show n+(l.length - n)=l.toArray.size by simp; omega] at R
 exact R
end QuietTail
namespace Sha
open Go.RowKit
def spreadW(w:World)(Bv:Array Value)(f:Nat→Int)(wr:World):Prop:=
 ∃Z:Array Value,Z.size=64∧Dr (((w.alloc (.cells Bv 209)).alloc (.cells Z 224)).alloc (.cells (arr 64 (vu32 f)) 224)) wr
theorem spreadW.byte{w:World}{x:Nat→Int}{f:Nat→Int}{wr:World}(h:spreadW w (arr 64 (vu8 x)) f wr){j:Nat}(hj:j < 64):wr.cell? ⟨w.heap.size,j,none⟩=some (.int .u8 (x j)):=by
 obtain⟨Z,hz,hD⟩:=h
 rw[hD.cell]
 simp[go_sem,arr_get,hj,vu8]
theorem spreadW.word{w:World}{Bv:Array Value}{f:Nat→Int}{wr:World}(h:spreadW w Bv f wr){j:Nat}(hj:j < 64):wr.cell? ⟨w.heap.size+1+1,j,none⟩=some (.int .u32 (f j)):=by
 obtain⟨Z,hz,hD⟩:=h
 rw[hD.cell]
 have e:w.heap.size+1+1=((w.alloc (.cells Bv 209)).alloc (.cells Z 224)).heap.size:=by simp
 rw[e,World.cell?_alloc_new,arr_get _ hj]
 rfl
theorem spreadW.free{w:World}{Bv:Array Value}{f:Nat→Int}{wr:World}(h:spreadW w Bv f wr)(j:Nat):wr.frozen? ⟨w.heap.size+1+1,j,none⟩=false:=by
 obtain⟨Z,hz,n,rfl⟩:=h
 simp[go_sem]
theorem spreadW.store{w:World}{Bv:Array Value}{f g:Nat→Int}{wr:World}(h:spreadW w Bv f wr)(j:Nat)(v:Int)(hg:∀i,i < 64→g i=if i=j then v else f i):spreadW w Bv g (wr.setCell ⟨w.heap.size+1+1,j,none⟩ (.int .u32 v)):=by
 obtain⟨Z,hz,hD⟩:=h
 refine⟨Z,hz,?_⟩
 have h1:=hD.store j (.int .u32 v)
 have e:w.heap.size+1+1=((w.alloc (.cells Bv 209)).alloc (.cells Z 224)).heap.size:=by simp
 rw[e]
 rw[arr_set] at h1
 rw[show arr 64 (vu32 g)=arr 64 (fun i=>if i=j then Value.int .u32 v else vu32 f i) from arr_congr fun i hi=>by
  simp only[vu32,hg i hi]; split <;> rfl]
 exact h1
theorem spreadW.more{w:World}{Bv:Array Value}{f:Nat→Int}{wr:World}(h:spreadW w Bv f wr)(n:Nat):spreadW w Bv f (wr.drewN n):=by
 obtain⟨Z,hz,hD⟩:=h
 exact⟨Z,hz,hD.more n⟩
theorem spreadW.ends{w:World}{Bv:Array Value}{f:Nat→Int}{wr:World}(h:spreadW w Bv f wr):∃Z:Array Value,Z.size=64∧wr.heap[w.heap.size+1+1]?=some (.cells (arr 64 (vu32 f)) 224 (0,0))∧
  wr.heap[w.heap.size+1]?=some (.cells Z 224 (0,0))∧Below w.heap.size w wr:=by
 obtain⟨Z,hz,n,rfl⟩:=h
 refine⟨Z,hz,?_,?_,below_drewN ((((Below.refl _ _).alloc (Nat.le_refl _) _).alloc (by simp) _).alloc (by simp; omega) _) _⟩
 ·have e:w.heap.size+1+1=((w.alloc (.cells Bv 209)).alloc (.cells Z 224)).heap.size:=by simp
  rw[World.heap_drewN,e]
  exact heap_alloc_new _ _
 ·have e:w.heap.size+1=(w.alloc (.cells Bv 209)).heap.size:=by simp
  rw[World.heap_drewN,heap_alloc_old _ _ (by simp),e]
  exact heap_alloc_new _ _
theorem zeros64(x:Nat→Int):arr 64 (vu32 (ws0 x 0))=#[.int .u32 0,.int .u32 0,.int .u32 0,.int .u32 0,.int .u32 0,.int .u32 0,.int .u32 0,.int .u32 0,.int .u32 0,.int .u32 0,.int .u32 0,.int .u32 0,.int .u32 0,.int .u32 0,.int .u32 0,.int .u32 0,
 .int .u32 0,.int .u32 0,.int .u32 0,.int .u32 0,.int .u32 0,.int .u32 0,.int .u32 0,.int .u32 0,.int .u32 0,.int .u32 0,.int .u32 0,.int .u32 0,.int .u32 0,.int .u32 0,.int .u32 0,.int .u32 0,
 .int .u32 0,.int .u32 0,.int .u32 0,.int .u32 0,.int .u32 0,.int .u32 0,.int .u32 0,.int .u32 0,.int .u32 0,.int .u32 0,.int .u32 0,.int .u32 0,.int .u32 0,.int .u32 0,.int .u32 0,.int .u32 0,
 .int .u32 0,.int .u32 0,.int .u32 0,.int .u32 0,.int .u32 0,.int .u32 0,.int .u32 0,.int .u32 0,.int .u32 0,.int .u32 0,.int .u32 0,.int .u32 0,.int .u32 0,.int .u32 0,.int .u32 0,.int .u32 0]:=by kernel_rfl
theorem info64{f:Nat→Value}:(Tryz.prog.info? 224).map (·.size)=some (arr 64 f).size:=by
 rw[arr_size]; kernel_rfl
theorem slice_block(b k:Nat)(hk:k < 16)(W:World):(Instr.sliceAt 209 (.pointer (some ⟨b,0,none⟩)) (some (.int .i64 (4 * (k:Int)))) none none).run Tryz.prog W=.ok (.slice (some ⟨b,4 * k,none⟩) (64 - 4 * k) (64 - 4 * k)) W:=by
 have hal:Tryz.prog.arrayLen 209=64:=by kernel_rfl
 have hsz:(sizeOf (Tryz.prog.elem 209)).run Tryz.prog W=.ok 1 W:=by kernel_rfl
 rw[run_sliceAt_array_l W 209 ⟨b,0,none⟩ (by kernel_rfl) .i64 (4 * (k:Int)) (by omega) (by rw[hal]; omega),hsz,hal]
 have e:(4 * (k:Int)).toNat=4 * k:=by omega
 simp only[Result.andThen,slicedAt,e,Nat.mul_one]
 rw[if_neg (by omega)]
 simp[Addr.add]
 omega
theorem spread_any(x:Nat→Int)(w:World)(hx:∀j,j < 64→0≤x j∧x j < 256) :
  Calls Tryz.prog 176 #[.agg (arr 64 (vu8 x))] w fun e w'=>e=.returned (.agg (arr 64 (vu32 (ws x 48))))∧Below w.heap.size w w':=by
 have HX:=Lib.hid hx
 clear hx
 obtain⟨F,hF0⟩:∃F,F=ws x 48:=⟨_,rfl⟩
 rw[←hF0]
 have HF:=Lib.hid hF0
 clear hF0
 go_enter Tryz.func176,Tryz.ntmps176
 go_wp2
 go_loopw [6] (fun i wr=>∃k:Nat,k≤16∧i=.int .i64 k∧spreadW w (arr 64 (vu8 x)) (ws0 x k) wr) (fun i _=>16 - (intOf i).toNat)
 case atStart=>
  refine⟨0,by omega,rfl,arr 64 (vu32 (ws0 x 0)),arr_size _ _,?_⟩
  rw[zeros64]; exact Dr.refl _
 case round=>
  obtain⟨k,hk,rfl,hS⟩:=hrel
  by_cases hlt:k < 16
  ·have c0:=hS.byte (j:=4 * k) (by omega)
   have c1:=hS.byte (j:=4 * k+1) (by omega)
   have c2:=hS.byte (j:=4 * k+2) (by omega)
   have c3:=hS.byte (j:=4 * k+3) (by omega)
   have hb:=And.intro (HX.out (4 * k) (by omega)) (And.intro (HX.out (4 * k+1) (by omega)) (And.intro (HX.out (4 * k+2) (by omega)) (HX.out (4 * k+3) (by omega))))
   have HT:=Lib.hid (take_any w.heap.size (4 * k) (64 - 4 * k) (64 - 4 * k) _ _ _ _ wr (by omega) (by omega) c0 c1 c2 c3 hb)
   have d:=hS.word (j:=k) (by omega)
   have df:=hS.free k
   have hsl:=slice_block w.heap.size k hlt
   clear c0 c1 c2 c3 hb
   go_wp2_with ((go_at_call 181); (with_reducible refine HT.out.mono ?_); (rintro e w' ⟨rfl,rfl⟩))
   go_roundw
   case rel=>exact⟨k+1,by omega,by go_num,hS.store k _ (fun i hi=>ws0_next x k i)⟩
   case measure=>simp[intOf]; omega
  ·obtain rfl:k=16:=by omega
   go_wp2
   go_loopw [5] (fun i wr=>∃k:Nat,16≤k∧k≤64∧i=.int .i64 k∧spreadW w (arr 64 (vu8 x)) (ws x (k - 16)) wr) (fun i _=>64 - (intOf i).toNat)
   case atStart=>exact⟨16,by omega,by omega,rfl,hS⟩
   case round=>
    clear hS hk hlt
    obtain⟨k,hk0,hk,rfl,hS⟩:=hrel
    by_cases hlt:k < 64
    ·have c2:=hS.word (j:=k - 2) (by omega)
     have c7:=hS.word (j:=k - 7) (by omega)
     have c15:=hS.word (j:=k - 15) (by omega)
     have c16:=hS.word (j:=k - 16) (by omega)
     have d:=hS.word (j:=k) (by omega)
     have df:=hS.free k
     go_wp2_with fail
     refine QuietTail.region (n:=23) (C:=fun w'=>∃n,w'=wr.drewN n) (by kernel_rfl) (by decide) (by kernel_rfl) (by kernel_rfl) ⟨1,rfl⟩ ?_
     simp only[List.take_succ_cons,List.take_zero,List.drop_succ_cons,List.drop_zero]
     repeat (go_big_quiet_step ((go_at_call 182; exact Calls.quiet_of (mixs_any _ _ _ _ _ (by omega) (by omega) (by omega) (by omega) (by omega) (by omega)))))
     refine wpQuiet_nil ?_
     rintro _ ⟨nq,rfl⟩
     go_wp2
     go_roundw
     case rel=>exact⟨k+1,by omega,by omega,by go_num,(hS.more nq).store k _ (fun i hi=>by rw[ws_next x k i hk0]; congr 1)⟩
     case measure=>simp[intOf]; omega
    ·obtain rfl:k=64:=by omega
     obtain⟨Z,hZ,hr,hz,hb⟩:=hS.ends
     rw[show 64 - 16=48 from rfl,←HF.out] at hr
     clear hS HF HX
     iterate 21 (try go_step)
     refine wpList_load_row rfl 224 (.tmp 3) rfl (w.heap.size+1+1) rfl 224 (arr 64 (vu32 F)) (0,0) (.array 64 188) hr (by kernel_rfl) rfl info64 ?_
     refine wpList_store_row rfl 224 (.tmp 2) (.tmp 43) rfl (w.heap.size+1) (arr 64 (vu32 F)) rfl rfl 224 Z hz info64 (hZ.trans (arr_size _ _).symm) (arr_one _ _) ?_
     clear hr
     have hres:(wr.setRow (w.heap.size+1) (arr 64 (vu32 F))).heap[w.heap.size+1]?=some (.cells (arr 64 (vu32 F)) 224 (0,0)):=setRow_heap wr _ _ _ _ _ hz
     have hb2:=below_setRow hb (g:=w.heap.size+1) (by omega) (arr 64 (vu32 F))
     generalize wr.setRow (w.heap.size+1) (arr 64 (vu32 F))=wf at hres hb2 ⊢
     clear hz hb
     iterate 4 (try go_step)
     refine bodyPost_ret (results_cell_row rfl _ _ (w.heap.size+1) 224 (arr 64 (vu32 F)) (0,0) (.array 64 188) rfl hres (by kernel_rfl) rfl info64) rfl ⟨rfl,hb2⟩
end Sha
namespace Sha
open Go.RowKit Go.Sort
theorem quiet_load_row{P:Program}{C:World→Prop}{o:Oper}{a:Act}{K:Act→Prop}(ty:TypeId)(x:Operand)(ho:o.op=.load ty x)(g:Nat)(hx:a.eval x=.pointer (some ⟨g,0,none⟩))(t:TypeId)(cs:Array Value)(fr:Nat × Nat)(d:TypeDesc)
  (hg:∀w,C w→w.heap[g]?=some (.cells cs t fr)) (hu:P.underlying ty=some d) (hd:(match d with | .struct _ | .array _ _=>true | _=>false)=true) (hi:(P.info? ty).map (·.size)=some cs.size) (h:K (a.put o.dst (.agg cs))):o.quiet P a C K:=by
 refine⟨.agg cs,fun w hw=>?_,h⟩
 unfold Oper.quietAt execOp
 simp only[ho,hx,Instr.loadAt,Instr.sureAddr,Sem.run_bind,Sem.run_pure,Result.andThen_ok,run_loadVar_row w g t ty cs fr d (hg w hw) hu hd hi]
 exact⟨rfl,rfl⟩
def S8.at(s:S8):Nat→Int
 | 0=>s.a
 | 1=>s.b
 | 2=>s.c
 | 3=>s.d
 | 4=>s.e
 | 5=>s.f
 | 6=>s.g
 | _=>s.h
theorem vals_arr(s:S8):s.vals=arr 8 (vu32 s.at):=by kernel_rfl
def addS(z s:S8):S8:=⟨(z.a+s.a) % 4294967296,(z.b+s.b) % 4294967296,(z.c+s.c) % 4294967296,(z.d+s.d) % 4294967296,(z.e+s.e) % 4294967296,(z.f+s.f) % 4294967296,(z.g+s.g) % 4294967296,(z.h+s.h) % 4294967296⟩
def addK(z s:S8)(k:Nat):Nat→Int:=fun i=>if i < k then (z.at i+s.at i) % 4294967296 else z.at i
theorem addK_next(z s:S8)(k i:Nat):addK z s (k+1) i=if i=k then (z.at k+s.at k) % 4294967296 else addK z s k i:=by
 unfold addK
 by_cases h:i=k
 ·subst h; simp
 ·have:i < k+1↔i < k:=by omega
  simp[h,this]
theorem addK_zero(z s:S8):addK z s 0=z.at:=by
 funext i; simp[addK]
theorem addK_end(z s:S8):arr 8 (vu32 (addK z s 8))=(addS z s).vals:=by
 rw[vals_arr]
 refine arr_congr fun i hi=>?_
 simp only[vu32,addK,hi,if_true]
 match i,hi with
 | 0,_=>rfl
 | 1,_=>rfl
 | 2,_=>rfl
 | 3,_=>rfl
 | 4,_=>rfl
 | 5,_=>rfl
 | 6,_=>rfl
 | 7,_=>rfl
 | n+8,h=>omega
theorem churn_at(s:S8)(W:Array Value)(w:World)(K wt:Nat→Int)
  (hK:∀k,k < 64→w.cell? ⟨0,k,none⟩=some (.int .u32 (K k))) (hW:∀k,k < 64→W[k]?=some (vu32 wt k)) (hz:0 < w.heap.size) :
  Calls Tryz.prog 175 #[.agg (arr 8 (vu32 s.at)),.agg W] w fun e w'=>e=.returned (.agg (arr 8 (vu32 (stp s K wt 64).at)))∧Below w.heap.size w w':=by
 rw[←vals_arr,←vals_arr]
 exact churn_any s W w K wt hK hW hz
def stepS(K:Nat→Int)(s:S8)(x:Nat→Int):S8:=addS (stp s K (ws x 48) 64) s
theorem zeros8:(#[.int .u32 0,.int .u32 0,.int .u32 0,.int .u32 0,.int .u32 0,.int .u32 0,.int .u32 0,.int .u32 0]:Array Value)=arr 8 (vu32 fun _=>0):=by kernel_rfl
theorem info8{f:Nat→Value}:(Tryz.prog.info? 189).map (·.size)=some (arr 8 f).size:=by
 rw[arr_size]; kernel_rfl
theorem infob{f:Nat→Value}:(Tryz.prog.info? 209).map (·.size)=some (arr 64 f).size:=by
 rw[arr_size]; kernel_rfl
theorem boxes(w:World)(A B Z:Array Value)(ta tb tz:TypeId):∀W,W=((w.alloc (.cells A ta)).alloc (.cells B tb)).alloc (.cells Z tz)→
  W.heap[w.heap.size]?=some (.cells A ta (0,0))∧W.heap[w.heap.size+1]?=some (.cells B tb (0,0))∧W.heap[w.heap.size+1+1]?=some (.cells Z tz (0,0))∧Below w.heap.size w W∧w.heap.size+1+1 < W.heap.size:=by
 rintro W rfl
 refine⟨?_,?_,?_,(((Below.refl _ _).alloc (Nat.le_refl _) _).alloc (by simp) _).alloc (by simp; omega) _,by simp⟩
 ·rw[heap_alloc_old _ _ (by simp; omega),heap_alloc_old _ _ (by simp)]; exact heap_alloc_new _ _
 ·rw[heap_alloc_old _ _ (by simp)]
  have e:w.heap.size+1=(w.alloc (.cells A ta)).heap.size:=by simp
  rw[e]; exact heap_alloc_new _ _
 ·have e:w.heap.size+1+1=((w.alloc (.cells A ta)).alloc (.cells B tb)).heap.size:=by simp
  rw[e]; exact heap_alloc_new _ _
structure AddW(g:Nat)(s z:S8)(w:World)(k:Nat)(wr:World):Prop where
 sums:wr.heap[g]?=some (.cells (arr 8 (vu32 (addK z s k))) 189 (0,0))
 old:wr.heap[w.heap.size]?=some (.cells (arr 8 (vu32 s.at)) 189 (0,0))
 res:wr.heap[w.heap.size+1+1]?=some (.cells (arr 8 (vu32 fun _=>0)) 189 (0,0))
 below:Below w.heap.size w wr
 far:w.heap.size+1+1 < g
 lt:g < wr.heap.size
theorem AddW.cell{g:Nat}{s z:S8}{w:World}{k:Nat}{wr:World}(h:AddW g s z w k wr)(hk:k < 8):wr.cell? ⟨g,k,none⟩=some (.int .u32 (z.at k)):=by
 rw[cell_of_row wr g k _ _ _ h.sums,arr_get _ hk]
 simp[vu32,addK]
theorem AddW.oldCell{g:Nat}{s z:S8}{w:World}{k:Nat}{wr:World}(h:AddW g s z w k wr){j:Nat}(hj:j < 8):wr.cell? ⟨w.heap.size,j,none⟩=some (.int .u32 (s.at j)):=by
 rw[cell_of_row wr _ j _ _ _ h.old,arr_get _ hj]
 rfl
theorem AddW.free{g:Nat}{s z:S8}{w:World}{k:Nat}{wr:World}(h:AddW g s z w k wr)(j:Nat):wr.frozen? ⟨g,j,none⟩=false:=frozen_of_row wr g j _ _ h.sums
theorem AddW.next{g:Nat}{s z:S8}{w:World}{k:Nat}{wr:World}(h:AddW g s z w k wr)(_hk:k < 8)(n:Nat) :
  AddW g s z w (k+1) ((wr.drewN n).setCell ⟨g,k,none⟩ (.int .u32 ((z.at k+s.at k) % 4294967296))):=by
 have hf:=h.far
 refine⟨?_,?_,?_,(below_drewN h.below n).setCell (by simp only[]; omega) _,h.far,by simpa using h.lt⟩
 ·rw[heap_setCell_same (wr.drewN n) g k (arr 8 (vu32 (addK z s k))) _ _ h.sums,arr_set]
  congr 2
  refine arr_congr fun i _=>?_
  simp only[vu32,addK_next]
  split <;> rfl
 ·rw[heap_setCell_other _ _ _ _ (by simp only[]; omega)]; exact h.old
 ·rw[heap_setCell_other _ _ _ _ (by simp only[]; omega)]; exact h.res
def StepInv(s z:S8)(x:Nat→Int)(w W:World)(L:Nat→Bool)(a:Act)(w':World):Prop:=
 ∃u5 u7 u8 u9 u10,a={ tmps:=#[.agg (arr 8 (vu32 s.at)),.agg (arr 64 (vu8 x)),.pointer (some ⟨w.heap.size,0,none⟩),.pointer (some ⟨w.heap.size+1,0,none⟩),.pointer (some ⟨w.heap.size+1+1,0,none⟩),u5,undef,u7,u8,u9,u10,
   undef,undef,undef,undef,undef,undef,undef,undef,undef,undef,undef,undef,undef],defers:=[] }∧(L 0=true→u7=.agg (arr 8 (vu32 s.at)))∧(L 1=true→u8=.agg (arr 64 (vu8 x)))∧(L 2=true→u9=.agg (arr 64 (vu32 (ws x 48))))∧
   (L 3=true→u10=.agg (arr 8 (vu32 z.at)))∧(L 4=true→∃g,u5=.pointer (some ⟨g,0,none⟩)∧W.heap.size≤g∧g < w'.heap.size∧w'.heap[g]?=some (.cells (arr 8 (vu32 fun _=>0)) 189 (0,0)))∧Below W.heap.size W w'
theorem step_any(s:S8)(x:Nat→Int)(w:World)(K:Nat→Int)(hx:∀j,j < 64→0≤x j∧x j < 256)
  (hK:∀k,k < 64→w.cell? ⟨0,k,none⟩=some (.int .u32 (K k))) (hz:0 < w.heap.size) :
  Calls Tryz.prog 167 #[.agg (arr 8 (vu32 s.at)),.agg (arr 64 (vu8 x))] w fun e w'=>e=.returned (.agg (arr 8 (vu32 (stepS K s x).at)))∧Below w.heap.size w w':=by
 have HX:=Lib.hid hx
 have HK:=Lib.hid hK
 clear hx hK
 obtain⟨F,hF0⟩:∃F,F=stepS K s x:=⟨_,rfl⟩
 obtain⟨z,hz0⟩:∃z,z=stp s K (ws x 48) 64:=⟨_,rfl⟩
 rw[←hF0]
 have HF:=Lib.hid hF0
 have HZ:=Lib.hid hz0
 clear hF0 hz0
 go_enter Tryz.func167,Tryz.ntmps167
 go_wp2_with fail
 have hbx:=boxes w (arr 8 (vu32 s.at)) (arr 64 (vu8 x)) #[.int .u32 0,.int .u32 0,.int .u32 0,.int .u32 0,.int .u32 0,.int .u32 0,.int .u32 0,.int .u32 0] 189 209 189 _ rfl
 generalize ((w.alloc (.cells (arr 8 (vu32 s.at)) 189)).alloc (.cells (arr 64 (vu8 x)) 209)).alloc (.cells #[.int .u32 0,.int .u32 0,.int .u32 0,.int .u32 0,.int .u32 0,.int .u32 0,.int .u32 0,.int .u32 0] 189)=W at hbx ⊢
 obtain⟨b0,b1,b2,hb,hs⟩:=hbx
 have KW:∀w',Below W.heap.size W w'→∀k,k < 64→w'.cell? ⟨0,k,none⟩=some (.int .u32 (K k)):=fun w' hw k hk=>by
  rw[hw.cell (show 0 < W.heap.size by omega),hb.cell (show 0 < w.heap.size from hz)]; exact HK.out k hk
 have HKW:=Lib.hid KW
 have B0:=Lib.hid b0
 have B1:=Lib.hid b1
 have B2:=Lib.hid b2
 clear KW b0 b1 b2
 refine QuietTail.regionInv (n:=5) (Inv:=StepInv s z x w W)
  (by kernel_rfl) (by decide) (by kernel_rfl) ⟨_,_,_,_,_,rfl,by simp,by simp,by simp,by simp,by simp,⟨rfl,rfl,rfl,Nat.le_refl _,fun _ _=>rfl⟩⟩ ?step ?fin
 case step=>
  rintro i o hi ho L a w' ⟨u5,u7,u8,u9,u10,rfl,i0,i1,i2,i3,i4,iB⟩ hL hpre
  match i,hi with
  | 0,_=>
   simp at ho
   subst ho
   refine wp_load_row 189 (.tmp 2) rfl w.heap.size rfl 189 (arr 8 (vu32 s.at)) (0,0) (.array 8 188) ((iB.block _ (by omega)).trans B0.out) (by kernel_rfl) rfl info8 ?_
   exact⟨u5,_,u8,u9,u10,rfl,fun _=>rfl,fun h=>i1 (by simpa using h),fun h=>i2 (by simpa using h),fun h=>i3 (by simpa using h),fun h=>i4 (by simpa using h),iB⟩
  | 1,_=>
   simp at ho
   subst ho
   refine wp_load_row 209 (.tmp 3) rfl (w.heap.size+1) rfl 209 (arr 64 (vu8 x)) (0,0) (.array 64 5) ((iB.block _ (by omega)).trans B1.out) (by kernel_rfl) rfl infob ?_
   exact⟨u5,u7,_,u9,u10,rfl,fun h=>i0 (by simpa using h),fun _=>rfl,fun h=>i2 (by simpa using h),fun h=>i3 (by simpa using h),fun h=>i4 (by simpa using h),iB⟩
  | 2,_=>
   simp at ho
   subst ho
   obtain rfl:=i1 (hpre 1 (by kernel_rfl))
   go_simp
   refine(spread_any x w' HX.out).mono ?_
   rintro _ w'' ⟨rfl,hb2⟩
   have hsz:=iB.size
   refine⟨u5,u7,_,_,u10,rfl,fun h=>i0 (by simpa using h),fun _=>rfl,fun _=>rfl,fun h=>i3 (by simpa using h),fun h=>?_,iB.trans (hb2.mono hsz)⟩
   obtain⟨g,e,g1,g2,g3⟩:=i4 (by simpa using h)
   exact⟨g,e,g1,Nat.lt_of_lt_of_le g2 hb2.size,(hb2.block g g2).trans g3⟩
  | 3,_=>
   simp at ho
   subst ho
   obtain rfl:=i0 (hpre 0 (by kernel_rfl))
   obtain rfl:=i2 (hpre 2 (by kernel_rfl))
   have hsz:=iB.size
   go_simp
   refine(churn_at s _ w' K (ws x 48) (HKW.out w' iB) (fun k hk=>arr_get _ hk) (by omega)).mono ?_
   rw[←HZ.out]
   rintro _ w'' ⟨rfl,hb2⟩
   refine⟨u5,_,u8,_,_,rfl,fun _=>rfl,fun h=>i1 (by simpa using h),fun _=>rfl,fun _=>rfl,fun h=>?_,iB.trans (hb2.mono hsz)⟩
   obtain⟨g,e,g1,g2,g3⟩:=i4 (by simpa using h)
   exact⟨g,e,g1,Nat.lt_of_lt_of_le g2 hb2.size,(hb2.block g g2).trans g3⟩
  | 4,_=>
   simp at ho
   subst ho
   have hsz:=iB.size
   go_simp
   exact⟨_,u7,u8,u9,u10,rfl,fun h=>i0 (by simpa using h),fun h=>i1 (by simpa using h),fun h=>i2 (by simpa using h),fun h=>i3 (by simpa using h),
    fun _=>⟨w'.heap.size,rfl,hsz,by simp,by rw[zeros8]; exact heap_alloc_new _ _⟩,iB.alloc hsz _⟩
  | n+5,h=>omega
 case fin=>
  rintro L a w' hall ⟨u5,u7,u8,u9,u10,rfl,i0,i1,i2,i3,i4,iB⟩
  obtain rfl:=i0 (hall 0 (by omega))
  obtain rfl:=i1 (hall 1 (by omega))
  obtain rfl:=i2 (hall 2 (by omega))
  obtain rfl:=i3 (hall 3 (by omega))
  obtain⟨g,rfl,g1,g2,g3⟩:=i4 (hall 4 (by omega))
  clear i0 i1 i2 i3 i4 hall
  simp only[List.drop_succ_cons,List.drop_zero]
  refine wpList_store_row rfl 189 (.tmp 5) (.tmp 10) rfl g (arr 8 (vu32 z.at)) rfl rfl 189 _ g3 info8 (by rw[arr_size,arr_size]) (arr_one _ _) ?_
  have hg:(w'.setRow g (arr 8 (vu32 z.at))).heap[g]?=some (.cells (arr 8 (vu32 z.at)) 189 (0,0)):=setRow_heap w' _ _ _ _ _ g3
  have hbf:=below_setRow iB (g:=g) g1 (arr 8 (vu32 z.at))
  have hsz:(w'.setRow g (arr 8 (vu32 z.at))).heap.size=w'.heap.size:=size_setRow _ _ _
  generalize w'.setRow g (arr 8 (vu32 z.at))=wf at hg hbf hsz ⊢
  have hbw:Below w.heap.size w wf:=hb.trans (hbf.mono (by omega))
  have h0:wf.heap[w.heap.size]?=some (.cells (arr 8 (vu32 s.at)) 189 (0,0)):=(hbf.block _ (by omega)).trans B0.out
  have h2:wf.heap[w.heap.size+1+1]?=some (.cells (arr 8 (vu32 fun _=>0)) 189 (0,0)):=by rw[hbf.block _ (by omega),B2.out,zeros8]
  have hgs:g < wf.heap.size:=by omega
  clear hsz hbf g3 iB g2 HKW B0 B1 B2
  have H0:Hid (AddW g s z w 0 wf):=⟨by rw[addK_zero]; exact hg,h0,h2,hbw,by omega,hgs⟩
  clear hg h0 h2 hbw hgs hb
  simp only[Act.put]
  go_wp2_with fail
  go_loopw [11] (fun i wr=>∃k:Nat,k≤8∧i=.int .i64 k∧AddW g s z w k wr) (fun i _=>8 - (intOf i).toNat)
  case atStart=>exact⟨0,by omega,rfl,H0.out⟩
  case round=>
   clear H0
   obtain⟨k,hk,rfl,hA⟩:=hrel
   by_cases hlt:k < 8
   ·have c1:=hA.cell hlt
    have c0:=hA.oldCell hlt
    have cf:=hA.free k
    go_wp2_with fail
    refine QuietTail.region (n:=8) (C:=fun w'=>∃n,w'=wr.drewN n) (by kernel_rfl) (by decide) (by kernel_rfl) (by kernel_rfl) ⟨1,rfl⟩ ?_
    simp only[List.take_succ_cons,List.take_zero,List.drop_succ_cons,List.drop_zero]
    repeat (go_big_quiet_step (fail))
    refine wpQuiet_nil ?_
    rintro _ ⟨nq,rfl⟩
    go_wp2
    go_roundw
    case rel=>exact⟨k+1,by omega,by go_num,hA.next hlt nq⟩
    case measure=>simp[intOf]; omega
   ·obtain rfl:k=8:=by omega
    have hg:=hA.sums
    have h2:=hA.res
    have hb:=hA.below
    rw[addK_end,vals_arr,show addS z s=F by rw[HF.out,HZ.out]; rfl] at hg
    clear hA hk hlt HF HZ HK HX
    have hres:(wr.setRow (w.heap.size+1+1) (arr 8 (vu32 F.at))).heap[w.heap.size+1+1]?=some (.cells (arr 8 (vu32 F.at)) 189 (0,0)):=setRow_heap wr _ _ _ _ _ h2
    have hb2:=below_setRow hb (g:=w.heap.size+1+1) (by omega) (arr 8 (vu32 F.at))
    repeat (first
     | (refine wpList_load_row rfl 189 (.tmp 5) rfl g rfl 189 (arr 8 (vu32 F.at)) (0,0) (.array 8 188) hg (by kernel_rfl) rfl info8 ?_)
     | (refine wpList_store_row rfl 189 (.tmp 4) (.tmp 23) rfl (w.heap.size+1+1) (arr 8 (vu32 F.at)) rfl rfl 189 _ h2 info8 (by rw[arr_size,arr_size]) (arr_one _ _) ?_)
     | go_step)
    refine bodyPost_ret (results_cell_row rfl _ _ (w.heap.size+1+1) 189 (arr 8 (vu32 F.at)) (0,0) (.array 8 188) rfl hres (by kernel_rfl) rfl info8) rfl ⟨rfl,hb2⟩
end Sha
namespace Sha
open Go.RowKit
def kList:List Int:=[1116352408,1899447441,3049323471,3921009573,961987163,1508970993,2453635748,2870763221,3624381080,310598401,607225278,1426881987,1925078388,2162078206,2614888103,3248222580,3835390401,4022224774,264347078,604807628,770255983,1249150122,1555081692,1996064986,2554220882,2821834349,2952996808,3210313671,3336571891,3584528711,113926993,338241895,666307205,773529912,1294757372,1396182291,1695183700,1986661051,2177026350,2456956037,2730485921,2820302411,3259730800,3345764771,3516065817,3600352804,4094571909,275423344,430227734,506948616,659060556,883997877,958139571,1322822218,1537002063,1747873779,1955562222,2024104815,2227730452,2361852424,2428436474,2756734187,3204031479,3329325298]
def kT(i:Nat):Int:=kList.getD i 0
end Sha
namespace Sha
open Go.RowKit
end Sha
end Go.Proofs.YteaocagepfgfnaaGreatDoor
