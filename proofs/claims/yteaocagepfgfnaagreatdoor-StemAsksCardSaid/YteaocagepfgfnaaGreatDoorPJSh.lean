import Derived.Test.YteaocagepfgfnaaGreatDoorRows
import Derived.WalkKit
import Derived.Handy
import Derived.Lib.AppendZerosOnto
import Derived.Lib.Hide
import Derived.Laws.AppendOwnNone
import Derived.Laws.BytesString
import Derived.Deep.MidRow
import Derived.Test.YteaocagepfgfnaaGreatDoorPJSha
import Derived.Lib.SlBytesConst
import Derived.ChangeKeysEq
import Derived.Test.YteaocagepfgfnaaGreatDoorCards
import Derived.Test.YteaocagepfgfnaaGreatDoorTie
import Derived.ProofKit
import Derived.OpenShut
import Derived.SizedLaws
import Derived.Deep.DeepHandedRow
import Derived.Lib.LaidTab
import Derived.Test.YteaocagepfgfnaaGreatDoorPAl
set_option maxRecDepth 100000
set_option maxHeartbeats 8000000
namespace Go.Proofs.YteaocagepfgfnaaGreatDoor
namespace Sha
open Go.RowKit
def bys(xs:List Int):List Value:=xs.map (Value.int .u8)
theorem bys_length(xs:List Int):(bys xs).length=xs.length:=by simp[bys]
theorem bys_append(xs ys:List Int):bys (xs ++ ys)=bys xs ++ bys ys:=by simp[bys]
theorem bys_get(xs:List Int)(i:Nat)(h:i < xs.length):(bys xs)[i]?=some (.int .u8 (xs.getD i 0)):=by
 simp[bys,List.getD_eq_getElem?_getD,h]
structure Lies(w:World)(B:Nat)(ao:Option Addr)(cap:Nat)(xs:List Int):Prop where
 room:xs.length≤cap
 nil:ao=none→cap=0
 cells:xs≠[]→∃b off,ao=some ⟨b,off,none⟩∧b < B∧∀i,i < xs.length→w.cell? ⟨b,off+i,none⟩=some (.int .u8 (xs.getD i 0))
theorem Lies.keep{w w':World}{B:Nat}{ao:Option Addr}{cap:Nat}{xs:List Int}(h:Lies w B ao cap xs)(hk:∀p:Addr,p.block < B→w'.cell? p=w.cell? p):Lies w' B ao cap xs:=
 ⟨h.room,h.nil,fun hn=>by
  obtain⟨b,off,e,hb,hc⟩:=h.cells hn
  exact⟨b,off,e,hb,fun i hi=>(hk _ hb).trans (hc i hi)⟩⟩
theorem Lies.below{w w':World}{B:Nat}{ao:Option Addr}{cap:Nat}{xs:List Int}(h:Lies w B ao cap xs)(hb:Below B w w'):Lies w' B ao cap xs:=h.keep fun _ hp=>hb.cell hp
theorem Lies.more{w:World}{B B':Nat}{ao:Option Addr}{cap:Nat}{xs:List Int}(h:Lies w B ao cap xs)(hB:B≤B'):Lies w B' ao cap xs:=
 ⟨h.room,h.nil,fun hn=>by
  obtain⟨b,off,e,hb,hc⟩:=h.cells hn
  exact⟨b,off,e,by omega,hc⟩⟩
theorem lies_own{w:World}{base:Nat}{ao:Option Addr}{cap:Nat}{xs:List Int}(h:w.ownsRow base 5 1 (.slice ao xs.length cap) xs.length (bys xs)):Lies w w.heap.size ao cap xs:=by
 have hlt:=h.lt
 have hc:=h.cells (g:=(ao.map (·.block)).getD 0)
 rcases h.2 with ⟨hv,hn⟩ | ⟨g,cap',cur,hv,hb,hg,hnc,_,hcs,ht⟩
 ·injection hv with h1 h2 h3
  exact⟨by omega,fun _=>h3,fun hx=>absurd (List.eq_nil_of_length_eq_zero hn) hx⟩
 ·injection hv with h1 h2 h3
  subst h1 h3
  refine⟨hnc,fun e=>(by cases e),fun _=>⟨g,0,rfl,(hlt g rfl).2,fun i hi=>?_⟩⟩
  rw[Nat.zero_add,cell_of_row w g i cur _ _ hg]
  have e1:=bys_get xs i hi
  rw[←ht] at e1
  simpa[List.getElem?_take,hi] using e1
theorem bytes_info:(Tryz.prog.info? 5).map (fun i=>(i.zero,i.size,i.bytes))=some (some (.int .u8 0),1,1):=by kernel_rfl
theorem bytes_slice:Tryz.prog.underlying 39=some (.slice 5):=by kernel_rfl
theorem bys_one(xs:List Int):∀u ∈ bys xs,u.oneCell'=true:=ints_oneCell _ _
theorem append_lies{w:World}{ops:Array Oper}{rest:List Oper}{o:Oper}{a:Act}{Q:Exit→Act→World→Prop}(hgd:o.guard=none)(s x:Operand)
  (ho:o.op=.call { callee:=.builtin .append,args:=#[s,x],argTypes:=#[39,39] }) (base:Nat) (v:Value) (ys:List Int) (hs:a.eval s=v) (hown:w.ownsRow base 5 1 v ys.length (bys ys))
  (B:Nat) (ao:Option Addr) (cap:Nat) (xs:List Int) (n:Nat) (hn:n=xs.length) (hx:a.eval x=.slice ao n cap) (hl:Lies w B ao cap xs) (hlen:ys.length+xs.length≤140737488355328) (hbase:base≤w.heap.size)
  (h:∀v' w',w'.ownsRow base 5 1 v' (ys ++ xs).length (bys (ys ++ xs))→w.grownBy w' v.ownBlock→wpList Tryz.prog ops Q rest (a.put o.dst v') w'):wpList Tryz.prog ops Q (o :: rest) a w:=by
 subst hn
 obtain⟨i0,hi,hz0,hz1,hz2⟩:=info_parts bytes_info
 cases ao with
 | none=>
  have hc:=hl.nil rfl
  have hx0:xs=[]:=List.eq_nil_of_length_eq_zero (by have:=hl.room; omega)
  subst hx0 hc
  exact wpList_append_own_none hgd s x 39 ho base 5 i0 1 bytes_slice hi v ys.length (bys ys) hs hown hx (h v w (by simpa using hown) (World.grownBy.refl _ _))
 | some ad=>
  refine wpList_append_own w hgd s x 39 ho base 5 i0 (.int .u8 0) 1 1 bytes_slice hi hz0 hz1 hz2 rfl (by decide) v ys.length (bys ys) hs hown ad xs.length cap (bys xs) hx (by simp[bys]) ?_ (bys_one _) (by unfold maxLen; omega) (by omega) hbase ?_
  ·intro j u hu
   have hj:j < xs.length:=by
    have:=(List.getElem?_eq_some_iff.1 hu).1
    rwa [bys_length] at this
   obtain⟨b,off,e,_,hc⟩:=hl.cells (fun e=>by rw[e] at hj; simp at hj)
   injection e with e
   subst e
   rw[Addr.add_mid,hc j hj,←hu,bys_get xs j hj]
  ·intro v' w' h1 h2 _
   exact h v' w' (by rw[bys_append,List.length_append]; exact h1) h2
def Byte(xs:List Int):Prop:=∀x ∈ xs,0≤x∧x < 256
theorem grow_any(n:Nat)(w:World)(h0:0 < n)(hb:n≤140737488355328) :
  Calls Tryz.prog 168 #[.slice none 0 0,.int .i64 n] w fun e w'=>∃v,e=.returned v∧w'.ownsRow w.heap.size 5 1 v 0 []∧Below w.heap.size w w':=by
 obtain⟨i0,hi,hz0,hz1,hz2⟩:=info_parts bytes_info
 have hrz:∀ty,(Builtin.append_ #[39,3] ty #[.slice none 0 0,.int .i64 (n:Int)]).run Tryz.prog w =
   .ok (.slice (some ⟨w.heap.size,0,none⟩) n (grownCap w n 0 5)) (w.drew.alloc (.cells (#[] ++ Builtin.zeroCells (Value.int .u8 0).cells n ++ Builtin.zeroCells (Value.int .u8 0).cells (grownCap w n 0 5 - n)) 5)):=fun ty=>by
  have h:=Lib.run_append_grow_zeros (P:=Tryz.prog) w 39 3 ty 5 i0 (.int .u8 0) .i64 .i64 bytes_slice (by kernel_rfl) hi hz0 none 0 0 [] (run_firstCells_none w.drew i0.size 0 0 0) n h0 (by omega) (by omega) (by omega) (by rw[hz2]; omega) (growslice_fits (by omega) (by rw[hz2]; omega))
  simpa only [Nat.zero_add] using h
 have hG:n≤grownCap w n 0 5:=grownCap_ge w _ _ _
 have hGm:grownCap w n 0 5≤maxLen:=grownCap_le_maxLen w n 0 5 (by unfold maxLen; omega)
 unfold maxLen at hGm
 generalize grownCap w n 0 5=G at hrz hG hGm
 obtain⟨Z,hZ⟩:∃Z,Z=#[] ++ Builtin.zeroCells (Value.int .u8 0).cells n ++ Builtin.zeroCells (Value.int .u8 0).cells (G - n):=⟨_,rfl⟩
 have hZs:Z.size=G * 1:=by
  rw[hZ,Array.size_append,Array.size_append,size_zeroCells,size_zeroCells]
  simp[Value.cells]; omega
 rw[←hZ] at hrz
 clear hi hz0 hz1 hz2 hZ
 have HZ:=Lib.hid hZs
 clear hZs
 go_enter Tryz.func168,Tryz.ntmps168
 go_wp2_with (at_builtin; refine Lib.wpList_append_run _ rfl _ _ _ _ rfl _ _ rfl rfl _ _ (hrz _) ?_)
 all_goals go_ret
 all_goals
  refine⟨_,rfl,⟨rfl,.inr ⟨w.heap.size,G,Z,rfl,Nat.le_refl _,heap_alloc_new w _,Nat.zero_le _,by unfold maxLen; omega,HZ.out,by simp⟩⟩,?_⟩
  exact((Below.refl _ _).alloc (Nat.le_refl _) _).trans ⟨rfl,rfl,rfl,Nat.le_refl _,fun _ _=>rfl⟩
end Sha
namespace Sha
open Go.RowKit
def zr(n:Nat):Nat:=(119 - n % 64) % 64
def pf(n z i:Nat):Int:=if i=0 then 128 else if i < 1+z then 0 else 8 * (n:Int) / 2 ^ (56 - 8 * (i - (1+z))) % 256
def padK(n k:Nat):List Int:=(List.range k).map (pf n (zr n))
def padL(n:Nat):List Int:=padK n (zr n+9)
theorem padK_length(n k:Nat):(padK n k).length=k:=by simp[padK]
theorem arr_bys(k:Nat)(f:Nat→Int):(arr k (vu8 f)).toList=bys ((List.range k).map f):=by
 apply List.ext_getElem?
 intro i
 by_cases h:i < k
 ·have e:=arr_get (vu8 f) h
  simp[bys,h,vu8] at e ⊢
  exact e
 ·simp[bys,h,arr]
theorem run_make_bytes(m:Nat)(hm:m≤140737488355328)(W:World):(Instr.makeSlice 39 (.int .i64 (m:Int)) (.int .i64 (m:Int))).run Tryz.prog W=.ok (.slice (some ⟨W.heap.size,0,none⟩) m m) (W.alloc (.cells (arr m (vu8 fun _=>0)) 5)):=by
 obtain⟨i0,hi,hz0,hz1,hz2⟩:=info_parts bytes_info
 have h:=run_make (P:=Tryz.prog) W 39 5 i0 (.int .u8 0) bytes_slice hi hz0 .i64 .i64 m m (by omega) (by omega) (by rw[hz2]; omega) (by omega)
 rw[Int.toNat_natCast,hz1,Nat.mul_one,show madeCells (Value.int .u8 0).cells m=arr m (vu8 fun _=>0) from Array.toList_inj.1 (by
  rw[show(Value.int .u8 0).cells=#[.int .u8 0] from rfl,toList_madeCells_one,arr_bys]
  apply List.ext_getElem?
  intro i
  by_cases hi:i < m
  ·simp[bys,hi]
  ·simp[bys,hi])] at h
 exact h
theorem pf_at(n z i j:Nat)(h:i=1+z+j):pf n z i=8 * (n:Int) / 2 ^ (56 - 8 * j) % 256:=by
 subst h
 unfold pf
 rw[if_neg (by omega),if_neg (by omega),show 1+z+j - (1+z)=j by omega]
theorem padf_end(n z:Nat):(arr (1+z+8) fun i=>
  if i=1+z+4+3 then Value.int .u8 (8 * (n:Int) % 4294967296 % 256)
  else if i=1+z+4+2 then Value.int .u8 (8 * (n:Int) % 4294967296 / 256 % 256)
  else if i=1+z+4+1 then Value.int .u8 (8 * (n:Int) % 4294967296 / 65536 % 256)
  else if i=1+z+4 then Value.int .u8 (8 * (n:Int) % 4294967296 / 16777216 % 256)
  else if i=1+z+3 then Value.int .u8 (8 * (n:Int) / 4294967296 % 256)
  else if i=1+z+2 then Value.int .u8 (8 * (n:Int) / 4294967296 / 256 % 256)
  else if i=1+z+1 then Value.int .u8 (8 * (n:Int) / 4294967296 / 65536 % 256)
  else if i=1+z then Value.int .u8 (8 * (n:Int) / 4294967296 / 16777216 % 256)
  else if i=0 then Value.int .u8 128 else vu8 (fun _=>0) i)=arr (1+z+8) (vu8 (pf n z)):=by
 refine arr_congr fun i hi=>?_
 simp only[vu8]
 rcases (show i=0∨(1≤i∧i < 1+z)∨i=1+z+0∨i=1+z+1∨i=1+z+2∨i=1+z+3∨i=1+z+4∨i=1+z+5∨i=1+z+6∨i=1+z+7 by omega) with h | h | h | h | h | h | h | h | h | h
 ·rw[if_neg (by omega),if_neg (by omega),if_neg (by omega),if_neg (by omega),if_neg (by omega),if_neg (by omega),if_neg (by omega),if_neg (by omega),if_pos h]
  unfold pf
  rw[if_pos h]
 ·rw[if_neg (by omega),if_neg (by omega),if_neg (by omega),if_neg (by omega),if_neg (by omega),if_neg (by omega),if_neg (by omega),if_neg (by omega),if_neg (by omega)]
  unfold pf
  rw[if_neg (by omega),if_pos h.2]
 ·rw[pf_at n z i 0 h,if_neg (by omega),if_neg (by omega),if_neg (by omega),if_neg (by omega),if_neg (by omega),if_neg (by omega),if_neg (by omega),if_pos (by omega)]
  refine congrArg (Value.int .u8) ?_
  rw[show(2:Int) ^ (56 - 8 * 0)=72057594037927936 from by decide]
  try omega
 ·rw[pf_at n z i 1 h,if_neg (by omega),if_neg (by omega),if_neg (by omega),if_neg (by omega),if_neg (by omega),if_neg (by omega),if_pos (by omega)]
  refine congrArg (Value.int .u8) ?_
  rw[show(2:Int) ^ (56 - 8 * 1)=281474976710656 from by decide]
  try omega
 ·rw[pf_at n z i 2 h,if_neg (by omega),if_neg (by omega),if_neg (by omega),if_neg (by omega),if_neg (by omega),if_pos (by omega)]
  refine congrArg (Value.int .u8) ?_
  rw[show(2:Int) ^ (56 - 8 * 2)=1099511627776 from by decide]
  try omega
 ·rw[pf_at n z i 3 h,if_neg (by omega),if_neg (by omega),if_neg (by omega),if_neg (by omega),if_pos (by omega)]
  refine congrArg (Value.int .u8) ?_
  rw[show(2:Int) ^ (56 - 8 * 3)=4294967296 from by decide]
  try omega
 ·rw[pf_at n z i 4 h,if_neg (by omega),if_neg (by omega),if_neg (by omega),if_pos (by omega)]
  refine congrArg (Value.int .u8) ?_
  rw[show(2:Int) ^ (56 - 8 * 4)=16777216 from by decide]
  try omega
 ·rw[pf_at n z i 5 h,if_neg (by omega),if_neg (by omega),if_pos (by omega)]
  refine congrArg (Value.int .u8) ?_
  rw[show(2:Int) ^ (56 - 8 * 5)=65536 from by decide]
  try omega
 ·rw[pf_at n z i 6 h,if_neg (by omega),if_pos (by omega)]
  refine congrArg (Value.int .u8) ?_
  rw[show(2:Int) ^ (56 - 8 * 6)=256 from by decide]
  try omega
 ·rw[pf_at n z i 7 h,if_pos (by omega)]
  refine congrArg (Value.int .u8) ?_
  rw[show(2:Int) ^ (56 - 8 * 7)=1 from by decide]
  try omega
theorem arr_there(w:World){m:Nat}(f:Nat→Value){t:TypeId}{j:Nat}(h:j < m):∃v,(w.alloc (.cells (arr m f) t)).cell? ⟨w.heap.size,j,none⟩=some v:=⟨_,by rw[World.cell?_alloc_new,arr_get _ h]⟩
theorem arr_free(w:World)(A:Array Value)(t:TypeId){j:Nat}:(w.alloc (.cells A t)).frozen? ⟨w.heap.size,j,none⟩=false:=frozen_of_row _ _ _ _ _ (heap_alloc_new _ _)
theorem padding_any(n:Nat)(w:World)(hb:n≤140737488355328) :
  Calls Tryz.prog 150 #[.int .i64 n] w fun e w'=>∃v,e=.returned v∧w'.ownsRow w.heap.size 5 1 v (padL n).length (bys (padL n))∧Below w.heap.size w w':=by
 obtain⟨z,hz⟩:∃z,z=zr n:=⟨_,rfl⟩
 have hz64:z < 64:=by rw[hz]; unfold zr; omega
 have he:(119 - (n:Int) % 64) % 64=(z:Int):=by rw[hz]; unfold zr; omega
 unfold padL
 rw[←hz]
 have HZ:=Lib.hid hz
 clear hz
 have hmk:=run_make_bytes (1+z+8) (by omega)
 rw[show((1+z+8:Nat):Int)=1+(z:Int)+8 by omega] at hmk
 have h00:(arr (1+z+8) (vu8 fun _=>0))[0]?=some (.int .u8 0):=arr_get _ (by omega)
 go_enter Tryz.func150,Tryz.ntmps150
 go_wp2_with fail
 simp only[he,arr_set]
 clear h00 hmk he
 refine(put_any w.heap.size (1+z) 8 8 _ _ (by omega) (by omega) (arr_there w _ (by omega)) (arr_there w _ (by omega)) (arr_there w _ (by omega)) (arr_there w _ (by omega)) (arr_free w _ _) (arr_free w _ _) (arr_free w _ _) (arr_free w _ _)).mono ?_
 rintro _ _ ⟨rfl,rfl⟩
 dsimp only
 simp only[World.setCell_alloc_new,arr_set]
 generalize hf1:(fun i=>if i=1+z+3 then Value.int .u8 _ else _)=f1
 go_wp2_with fail
 refine(put_any w.heap.size (1+z+4) 4 4 _ _ (by omega) (by omega) (arr_there w _ (by omega)) (arr_there w _ (by omega)) (arr_there w _ (by omega)) (arr_there w _ (by omega)) (arr_free w _ _) (arr_free w _ _) (arr_free w _ _) (arr_free w _ _)).mono ?_
 rintro _ _ ⟨rfl,rfl⟩
 dsimp only
 simp only[World.setCell_alloc_new,arr_set]
 rw[←hf1]
 clear hf1
 generalize hF:arr (1+z+8) _=A
 have HA:=Lib.hid hF
 clear hF
 go_wp2_with fail
 go_ret
 have hA:=HA.out.symm.trans (padf_end n z)
 refine⟨_,rfl,⟨by rw[bys_length,Nat.mul_one],.inr ⟨w.heap.size,1+z+8,A,by rw[padK_length,show z+9=1+z+8 by omega]; rfl,Nat.le_refl _,heap_alloc_new _ _,by rw[padK_length]; omega,by unfold maxLen; omega,by rw[hA,arr_size,Nat.mul_one],?_⟩⟩,(Below.refl _ _).alloc (Nat.le_refl _) _⟩
 rw[hA,arr_bys,padK_length,show 1+z+8=z+9 by omega,List.take_of_length_le (by simp[bys])]
 unfold padK
 rw[←HZ.out]
theorem own_form{w:World}{base:Nat}{v:Value}{xs:List Int}(h:w.ownsRow base 5 1 v xs.length (bys xs)):∃ao cap,v=.slice ao xs.length cap:=by
 rcases h.2 with ⟨rfl,hn⟩ | ⟨g,cap,cur,rfl,_⟩
 ·exact⟨none,0,by rw[hn]⟩
 ·exact⟨_,_,rfl⟩
theorem padL_length(n:Nat):(padL n).length=zr n+9:=padK_length _ _
theorem grow_at(k:Int)(n:Nat)(w:World)(hk:k=(n:Int))(h0:0 < n)(hb:n≤140737488355328) :
  Calls Tryz.prog 168 #[.slice none 0 0,.int .i64 k] w fun e w'=>∃v,e=.returned v∧w'.ownsRow w.heap.size 5 1 v 0 []∧Below w.heap.size w w':=by
 subst hk
 exact grow_any n w h0 hb
theorem concat_any(g n1 n2:Nat)(A1 A2:Option Addr)(c1 c2:Nat)(xs ys:List Int)(w:World)(e1:n1=xs.length)(e2:n2=ys.length)(hc0:w.cell? ⟨g,0,none⟩=some (.slice A1 n1 c1))(hc1:w.cell? ⟨g,1,none⟩=some (.slice A2 n2 c2))
  (hl1:Lies w w.heap.size A1 c1 xs) (hl2:Lies w w.heap.size A2 c2 ys) (h0:0 < n1+n2) (hlen:n1+n2≤140737488355328) :
  Calls Tryz.prog 149 #[.slice (some ⟨g,0,none⟩) 2 2] w fun e w'=>∃v,e=.returned v∧w'.ownsRow w.heap.size 5 1 v (xs ++ ys).length (bys (xs ++ ys))∧Below w.heap.size w w':=by
 have hg:g < w.heap.size:=block_lt_of_cell hc0
 have HL1:=Lib.hid hl1
 have HL2:=Lib.hid hl2
 have E1:=Lib.hid e1
 have E2:=Lib.hid e2
 clear hl1 hl2 e1 e2
 go_enter Tryz.func149,Tryz.ntmps149
 go_wp2_with fail
 refine wp_loop_rounds 3 ?_
 rw[rounds_succ]
 go_wp2_with fail
 rw[rounds_succ]
 go_wp2_with fail
 rw[rounds_succ]
 go_wp2_with fail
 refine(grow_at _ (n1+n2) w (by omega) h0 hlen).mono ?_
 rintro _ w1 ⟨v0,rfl,hown0,hb1⟩
 dsimp only
 have d0:=(hb1.cell (p:=⟨g,0,none⟩) hg).trans hc0
 have d1:=(hb1.cell (p:=⟨g,1,none⟩) hg).trans hc1
 clear hc0 hc1
 go_wp2_with fail
 refine wp_loop_rounds 3 ?_
 rw[rounds_succ]
 have hs1:=hb1.size
 go_wp2_with (at_builtin; refine append_lies rfl (.tmp 31) (.tmp 32) rfl w.heap.size v0 [] rfl hown0 w.heap.size A1 c1 xs n1 E1.out rfl (HL1.out.below hb1) (by have:=E1.out; simp only[List.length_nil]; omega) (by omega) ?_; intro v1 w2 hown1 hg1)
 have hb2:Below w.heap.size w w2:=hb1.grown hg1 hs1 (fun k hk=>(hown0.lt k hk).1)
 have hs2:=hb2.size
 have f1:w2.cell? ⟨g,1,none⟩=some (.slice A2 n2 c2):=by
  have h1:=hb2.cell (p:=⟨g,1,none⟩) hg
  have h2:=hb1.cell (p:=⟨g,1,none⟩) hg
  rw[h1,←h2]; exact d1
 rw[List.nil_append] at hown1
 clear d0 d1 hg1 hown0
 rw[rounds_succ]
 go_wp2_with (at_builtin; refine append_lies rfl (.tmp 31) (.tmp 32) rfl w.heap.size v1 xs rfl hown1 w.heap.size A2 c2 ys n2 E2.out rfl (HL2.out.below hb2) (by have h1:=E1.out; have h2:=E2.out; omega) (by omega) ?_; intro v2 w3 hown2 hg2)
 have hb3:Below w.heap.size w w3:=hb2.grown hg2 hs2 (fun k hk=>(hown1.lt k hk).1)
 clear f1 hg2 hown1
 rw[rounds_succ]
 go_wp2_with fail
 go_ret
 exact⟨v2,rfl,hown2,hb3⟩
end Sha
namespace Sha
open Go.RowKit
end Sha
namespace Sha
open Go.RowKit Go.Sort
def blk(xs:List Int)(k:Nat):Nat→Int:=fun i=>xs.getD (64 * k+i) 0
def stL(K:Nat→Int)(xs:List Int)(s:S8):Nat→S8
 | 0=>s
 | k+1=>stepS K (stL K xs s k) (blk xs k)
theorem blk_byte{xs:List Int}(h:Byte xs)(k j:Nat):0≤blk xs k j∧blk xs k j < 256:=by
 unfold blk
 rw[List.getD_eq_getElem?_getD]
 cases hx:xs[64 * k+j]? with
 | none=>simp
 | some v=>
  have:=h v (List.mem_of_getElem? hx)
  simpa using this
theorem quiet_load_mid{P:Program}{C:World→Prop}{o:Oper}{a:Act}{K:Act→Prop}(ty:TypeId)(x:Operand)(ho:o.op=.load ty x)(b off:Nat)(hx:a.eval x=.pointer (some ⟨b,off,none⟩))(cs:Array Value)(d:TypeDesc)
  (hg:∀w,C w→w.rangeAt b off cs.toList) (hu:P.underlying ty=some d) (hd:d.isRow=true) (hi:(P.info? ty).map (·.size)=some cs.size) (h:K (a.put o.dst (.agg cs))):o.quiet P a C K:=by
 refine⟨.agg cs,fun w hw=>?_,h⟩
 unfold Oper.quietAt execOp
 have e:=run_loadAt_mid (P:=P) w b off ty cs.toList d (hg w hw) hu hd (by rw[Array.length_toList]; exact hi)
 simp only[Array.toArray_toList] at e
 simp only[ho,hx,e,Sem.run_bind,Sem.run_pure,Result.andThen_ok]
 exact⟨rfl,rfl⟩
structure StepsW(K:Nat→Int)(xs:List Int)(s:S8)(w:World)(k:Nat)(wr:World):Prop where
 box:wr.heap[w.heap.size]?=some (.cells (arr 8 (vu32 (stL K xs s k).at)) 189 (0,0))
 res:wr.heap[w.heap.size+1]?=some (.cells (arr 8 (vu32 fun _=>0)) 189 (0,0))
 below:Below w.heap.size w wr
 lt:w.heap.size+1 < wr.heap.size
theorem StepsW.next{K:Nat→Int}{xs:List Int}{s:S8}{w:World}{k:Nat}{wr wz:World}(h:StepsW K xs s w k wr)(b:Below wr.heap.size wr wz):StepsW K xs s w (k+1) (wz.setRow w.heap.size (arr 8 (vu32 (stepS K (stL K xs s k) (blk xs k)).at))):=by
 have hl:=h.lt
 have hs:=b.size
 have hb:=h.below.size
 refine⟨setRow_heap wz _ _ _ _ _ ((b.block _ (by omega)).trans h.box),?_,below_setRow (h.below.trans (b.mono hb)) (Nat.le_refl _) _,by rw[size_setRow]; omega⟩
 rw[setRow_other _ _ _ _ (by omega)]
 exact(b.block _ (by omega)).trans h.res
theorem run_array64(a:Addr)(l c:Nat)(hl:64≤l)(W:World):(Instr.arrayAt 209 (.slice (some a) l c)).run Tryz.prog W=.ok (.pointer (some a)) W:=by
 have hu:Tryz.prog.underlying 209=some (.array 64 5):=by kernel_rfl
 unfold Instr.arrayAt
 rw[Sem.run_bind,run_underlying hu]
 have h:¬ l < 64:=by omega
 simp[Result.andThen,h]
theorem StepsW.start(K:Nat→Int)(xs:List Int)(s:S8)(w:World):StepsW K xs s w 0 ((w.alloc (.cells (arr 8 (vu32 s.at)) 189)).alloc (.cells (arr 8 (vu32 fun _=>0)) 189)):=by
 refine⟨?_,?_,((Below.refl _ _).alloc (Nat.le_refl _) _).alloc (by simp) _,by simp⟩
 ·rw[heap_alloc_old _ _ (by simp)]; exact heap_alloc_new _ _
 ·have e:w.heap.size+1=(w.alloc (.cells (arr 8 (vu32 s.at)) 189)).heap.size:=by simp
  rw[e]; exact heap_alloc_new _ _
theorem steps_any(s:S8)(n m:Nat)(ao:Option Addr)(cap:Nat)(xs:List Int)(w:World)(K:Nat→Int)(hn:n=xs.length)(hm:n=64 * m)(hl:Lies w w.heap.size ao cap xs)(hx:Byte xs)(hlen:n≤140737488355328)
  (hK:∀k,k < 64→w.cell? ⟨0,k,none⟩=some (.int .u32 (K k))) (hz:0 < w.heap.size) :
  Calls Tryz.prog 147 #[.agg (arr 8 (vu32 s.at)),.slice ao n cap] w fun e w'=>e=.returned (.agg (arr 8 (vu32 (stL K xs s m).at)))∧Below w.heap.size w w':=by
 have HX:=Lib.hid hx
 have HK:=Lib.hid hK
 have HL:=Lib.hid hl
 have HN:=Lib.hid hn
 have HM:=Lib.hid hm
 obtain⟨F,hF0⟩:∃F,F=stL K xs s m:=⟨_,rfl⟩
 rw[←hF0]
 have HF:=Lib.hid hF0
 have hq:(n:Int) / 64=(m:Int):=by omega
 clear hx hK hl hn hm hF0
 go_enter Tryz.func147,Tryz.ntmps147
 go_wp2_with fail
 simp only[zeros8]
 have H0:=StepsW.start K xs s w
 generalize (w.alloc (.cells (arr 8 (vu32 s.at)) 189)).alloc (.cells (arr 8 (vu32 fun _=>0)) 189)=W at H0 ⊢
 have HS:=Lib.hid H0
 clear H0
 go_loopw [9] (fun i wr=>∃k:Nat,k≤m∧i=.int .i64 k∧StepsW K xs s w k wr) (fun i _=>m - (intOf i).toNat)
 case atStart=>exact⟨0,by omega,rfl,HS.out⟩
 case round=>
  clear HS
  obtain⟨k,hk,rfl,hA⟩:=hrel
  by_cases hlt:k < m
  ·obtain⟨b,off,rfl,hb,hc⟩:=HL.out.cells (by intro e; have h1:=HN.out; have h2:=HM.out; rw[e] at h1; simp at h1; omega)
   have hroom:=HL.out.room
   have hnn:=HN.out
   have hmm:=HM.out
   have r1:64 * (k:Int)≤(n:Int):=by omega
   have r2:64 * k≤n:=by omega
   have r3:¬ cap=64 * k:=by omega
   have r4:64≤n - 64 * k:=by omega
   have r5:n≤cap:=by omega
   have r6:(64 * (k:Int)).toNat=64 * k:=by omega
   have HR:=Lib.hid r6
   have harr:=run_array64 ⟨b,off+64 * k,none⟩ (n - 64 * k) (cap - 64 * k) r4
   clear hnn hmm hroom r6
   have hlow:=hA.lt
   have hbb:=hA.below
   have hB:∀p:Regrown,(grow (redrawn wr p.d) p.os).heap[w.heap.size]?=some (.cells (arr 8 (vu32 (stL K xs s k).at)) 189 (0,0)):=fun p=>((below_regrown wr p.d p.os).block _ (by omega)).trans hA.box
   have hR:∀p:Regrown,(grow (redrawn wr p.d) p.os).rangeAt b (off+64 * k) (arr 64 (vu8 (blk xs k))).toList:=fun p=>by
    intro j v hv
    have hj:j < 64:=by
     have:=(List.getElem?_eq_some_iff.1 hv).1
     simpa[arr] using this
    rw[(below_regrown wr p.d p.os).cell (show b < wr.heap.size by omega),hbb.cell (show b < w.heap.size from hb)]
    have h1:=hc (64 * k+j) (by have:=HN.out; omega)
    rw[Nat.add_assoc,h1,←hv,Array.getElem?_toList,arr_get _ hj]
    rfl
   have hKW:∀(d:Nat) (os:Array Obj),∀i,i < 64→(grow (redrawn wr d) os).cell? ⟨0,i,none⟩=some (.int .u32 (K i)):=fun d os i hi=>by
    rw[(below_regrown wr d os).cell (show 0 < wr.heap.size by omega),hbb.cell (show 0 < w.heap.size from hz)]; exact HK.out i hi
   have hsz:∀(d:Nat) (os:Array Obj),0 < (grow (redrawn wr d) os).heap.size:=fun d os=>by have:=(below_regrown wr d os).size; omega
   have HB:=Lib.hid hB
   have HRR:=Lib.hid hR
   have HKW:=Lib.hid hKW
   have HSZ:=Lib.hid hsz
   have HA:=Lib.hid hA
   clear hB hR hKW hsz hc hA hbb
   go_wp2_with fail
   refine QuietTail.region (n:=8) (C:=fun w'=>∃p:Regrown,w'=grow (redrawn wr p.d) p.os) (by kernel_rfl) (by decide) (by kernel_rfl) (by kernel_rfl) ⟨⟨wr.drawn+1,#[]⟩,by rw[grow_empty]; rfl⟩ ?_
   simp only[List.take_succ_cons,List.take_zero,List.drop_succ_cons,List.drop_zero]
   go_big_quiet_want
   refine quiet_load_row 189 (.tmp 2) rfl w.heap.size rfl 189 (arr 8 (vu32 (stL K xs s k).at)) (0,0) (.array 8 188) (by rintro _ ⟨p,rfl⟩; exact HB.out p) (by kernel_rfl) rfl info8 ?_
   simp only[Act.put,aA]
   go_big_quiet_on
   iterate 5 (go_big_quiet_step (fail))
   go_big_quiet_want
   refine quiet_load_mid 209 (.tmp 17) rfl b (off+64 * k) rfl (arr 64 (vu8 (blk xs k))) (.array 64 5) (by rintro _ ⟨p,rfl⟩; exact HRR.out p) (by kernel_rfl) rfl infob ?_
   simp only[Act.put,aA]
   go_big_quiet_on
   go_big_quiet_step ((go_at_call 167; exact Calls.regrown_of (step_any (stL K xs s k) (blk xs k) _ K (fun j _=>blk_byte HX.out k j) (HKW.out _ _) (HSZ.out _ _))))
   refine wpQuiet_nil ?_
   rintro _ ⟨q,rfl⟩
   have hbx:=HB.out q
   refine wpList_store_row rfl 189 (.tmp 2) (.tmp 19) rfl w.heap.size (arr 8 (vu32 (stepS K (stL K xs s k) (blk xs k)).at)) rfl rfl 189 _ hbx info8 (by rw[arr_size,arr_size]) (arr_one _ _) ?_
   simp only[Act.put]
   have hN:=HA.out.next (below_regrown wr q.d q.os)
   generalize (grow (redrawn wr q.d) q.os).setRow w.heap.size (arr 8 (vu32 (stepS K (stL K xs s k) (blk xs k)).at))=wn at hN ⊢
   clear hbx HB HRR HKW HSZ HA harr r1 r2 r3 r4 r5
   have HNN:=Lib.hid hN
   clear hN
   go_wp2_with fail
   go_roundw
   case rel=>exact⟨k+1,by omega,by go_num,HNN.out⟩
   case measure=>simp[intOf]; omega
  ·obtain rfl:k=m:=by omega
   have hg:=hA.box
   have h2:=hA.res
   have hb:=hA.below
   rw[←HF.out] at hg
   have hres:(wr.setRow (w.heap.size+1) (arr 8 (vu32 F.at))).heap[w.heap.size+1]?=some (.cells (arr 8 (vu32 F.at)) 189 (0,0)):=setRow_heap wr _ _ _ _ _ h2
   have hb2:=below_setRow hb (g:=w.heap.size+1) (by omega) (arr 8 (vu32 F.at))
   clear hA
   repeat (first
    | (refine wpList_load_row rfl 189 (.tmp 2) rfl w.heap.size rfl 189 (arr 8 (vu32 F.at)) (0,0) (.array 8 188) hg (by kernel_rfl) rfl info8 ?_; simp only[Act.put,aA])
    | (refine wpList_store_row rfl 189 (.tmp 4) (.tmp 21) rfl (w.heap.size+1) (arr 8 (vu32 F.at)) rfl rfl 189 _ h2 info8 (by rw[arr_size,arr_size]) (arr_one _ _) ?_; simp only[Act.put])
    | go_step)
   refine bodyPost_ret (results_cell_row rfl _ _ (w.heap.size+1) 189 (arr 8 (vu32 F.at)) (0,0) (.array 8 188) rfl hres (by kernel_rfl) rfl info8) rfl ⟨rfl,hb2⟩
end Sha
namespace Sha
open Go.RowKit Go.Sort
theorem size_elem(W:World):(sizeOf (Tryz.prog.elem 39)).run Tryz.prog W=.ok 1 W:=by kernel_rfl
theorem under_elem:Tryz.prog.underlying 39=some (.slice (Tryz.prog.elem 39)):=by kernel_rfl
theorem run_cut_hi{w:World}{B:Nat}{ao:Option Addr}{cap n e:Nat}{xs:List Int}(hl:Lies w B ao cap xs)(hn:n=xs.length)(he:e≤n) :
  (∀W,(Instr.sliceAt 39 (.slice ao n cap) none (some (.int .i64 (e:Int))) none).run Tryz.prog W=.ok (.slice ao e cap) W)∧Lies w B ao cap (xs.take e):=by
 have hr:=hl.room
 refine⟨fun W=>?_,⟨by rw[List.length_take]; omega,hl.nil,fun hx=>?_⟩⟩
 ·rw[run_sliceAt_slice W 39 _ _ _ _ under_elem,run_slice_h W 39 ao n cap under_elem .i64 (e:Int) (by omega) (by omega),size_elem]
  simp only[Result.andThen,sliced,Int.toNat_natCast,Nat.sub_zero,Nat.zero_mul]
  by_cases h0:cap=0
  ·simp[h0]
  ·rw[if_neg h0]
   cases ao with
   | none=>rfl
   | some a=>simp[Addr.add]
 ·obtain⟨b,off,e1,hb,hc⟩:=hl.cells (by rintro rfl; simp at hx)
  refine⟨b,off,e1,hb,fun i hi=>?_⟩
  rw[List.length_take] at hi
  rw[hc i (by omega)]
  simp only[List.getD_eq_getElem?_getD,List.getElem?_take]
  rw[if_pos (by omega)]
theorem run_cut_lo{w:World}{B:Nat}{ao:Option Addr}{cap n e:Nat}{xs:List Int}(hl:Lies w B ao cap xs)(hn:n=xs.length)(he:e≤n) :
  ∃a2,(∀W,(Instr.sliceAt 39 (.slice ao n cap) (some (.int .i64 (e:Int))) none none).run Tryz.prog W=.ok (.slice a2 (n - e) (cap - e)) W)∧Lies w B a2 (cap - e) (xs.drop e):=by
 have hr:=hl.room
 refine⟨if cap=e then ao else ao.map (·.add (e * 1)),fun W=>?_,⟨by rw[List.length_drop]; omega,fun h=>?_,fun hx=>?_⟩⟩
 ·rw[run_sliceAt_slice W 39 _ _ _ _ under_elem,run_slice_l W 39 ao n cap under_elem .i64 (e:Int) (by omega) (by omega),size_elem]
  simp only[Result.andThen,sliced,Int.toNat_natCast]
 ·by_cases hc:cap=e
  ·omega
  ·rw[if_neg hc] at h
   cases ao with
   | none=>have:=hl.nil rfl; omega
   | some a=>simp at h
 ·have hlen:e < xs.length:=by
   rcases Nat.lt_or_ge e xs.length with h | h
   ·exact h
   ·exact absurd (List.drop_eq_nil_of_le h) hx
  obtain⟨b,off,e1,hb,hc⟩:=hl.cells (by rintro rfl; simp at hlen)
  rw[if_neg (by omega),e1]
  refine⟨b,off+e,by simp[Addr.add_mid],hb,fun i hi=>?_⟩
  rw[List.length_drop] at hi
  rw[Nat.add_assoc,hc (e+i) (by omega)]
  simp only[List.getD_eq_getElem?_getD,List.getElem?_drop]
theorem byte_take{xs:List Int}(h:Byte xs)(e:Nat):Byte (xs.take e):=fun x hx=>h x (List.mem_of_mem_take hx)
theorem byte_drop{xs:List Int}(h:Byte xs)(e:Nat):Byte (xs.drop e):=fun x hx=>h x (List.mem_of_mem_drop hx)
theorem byte_append{xs ys:List Int}(h:Byte xs)(k:Byte ys):Byte (xs ++ ys):=fun x hx=>(List.mem_append.1 hx).elim (h x) (k x)
theorem byte_padK(n k:Nat):Byte (padK n k):=by
 intro x hx
 simp only[padK,List.mem_map] at hx
 obtain⟨i,_,rfl⟩:=hx
 unfold pf
 split
 ·omega
 ·split
  ·omega
  ·exact⟨Int.emod_nonneg _ (by omega),Int.emod_lt_of_pos _ (by omega)⟩
theorem kL{L:Nat→Bool}{i j:Nat}{p:Prop}(h:L i=true→p)(hij:(i == j)=false):(i == j || L i)=true→p:=fun e=>h (by rwa [hij,Bool.false_or] at e)
theorem info32{f:Nat→Value}:(Tryz.prog.info? 22).map (·.size)=some (arr 32 f).size:=by
 rw[arr_size]; kernel_rfl
theorem zeros32:(#[.int .u8 0,.int .u8 0,.int .u8 0,.int .u8 0,.int .u8 0,.int .u8 0,.int .u8 0,.int .u8 0,.int .u8 0,.int .u8 0,.int .u8 0,.int .u8 0,.int .u8 0,.int .u8 0,.int .u8 0,.int .u8 0,
 .int .u8 0,.int .u8 0,.int .u8 0,.int .u8 0,.int .u8 0,.int .u8 0,.int .u8 0,.int .u8 0,.int .u8 0,.int .u8 0,.int .u8 0,.int .u8 0,.int .u8 0,.int .u8 0,.int .u8 0,.int .u8 0]:Array Value)=arr 32 (vu8 fun _=>0):=by kernel_rfl
theorem s0_arr:s0.vals=arr 8 (vu32 s0.at):=vals_arr _
def SumInv1(B T1:Value)(e:Nat)(H:S8)(w W:World)(L:Nat→Bool)(a:Act)(w':World):Prop:=
 ∃u8 u9 u10 u11 u12 u13 u14 u15 u16 u17 u18 u4,a={ tmps:=#[B,undef,.pointer (some ⟨w.heap.size,0,none⟩),.int .i64 e,u4,undef,undef,undef,u8,u9,u10,u11,u12,u13,u14,u15,u16,u17,u18,
  undef,undef,undef,undef,undef,undef,undef,undef,undef,undef,undef,undef,undef,undef,undef,undef,undef,undef,undef,undef,undef,undef],defers:=[] }∧
  (L 0=true→u14=.agg (arr 8 (vu32 s0.at)))∧(L 1=true→u15=B)∧(L 2=true→u16=.int .i64 e)∧(L 3=true→u17=T1)∧(L 4=true→u18=.agg (arr 8 (vu32 H.at)))∧
  (L 5=true→∃g,u4=.pointer (some ⟨g,0,none⟩)∧W.heap.size≤g∧g < w'.heap.size∧w'.heap[g]?=some (.cells (arr 8 (vu32 fun _=>0)) 189 (0,0)))∧Below W.heap.size W w'
def sumS(xs:List Int):S8:=stL kT (xs ++ padL xs.length) s0 ((xs.length+zr xs.length+9) / 64)
theorem blk_left{A B:List Int}{k:Nat}(h:64 * (k+1)≤A.length)(j:Nat)(hj:j < 64):blk (A ++ B) k j=blk A k j:=by
 unfold blk
 simp only[List.getD_eq_getElem?_getD]
 rw[List.getElem?_append_left (by omega)]
theorem blk_right{A B:List Int}{q:Nat}(h:A.length=64 * q)(k j:Nat):blk (A ++ B) (q+k) j=blk B k j:=by
 unfold blk
 simp only[List.getD_eq_getElem?_getD]
 rw[List.getElem?_append_right (by omega),show 64 * (q+k)+j - A.length=64 * k+j by omega]
theorem ws_congr{x y:Nat→Int}(h:∀j,j < 64→x j=y j):∀k,ws x k=ws y k
 | 0=>by
  funext t
  simp only[ws,ws0]
  by_cases ht:t < 16
  ·rw[if_pos ht,if_pos ht]
   unfold wd
   rw[h _ (by omega),h _ (by omega),h _ (by omega),h _ (by omega)]
  ·rw[if_neg ht,if_neg ht]
 | k+1=>by
  have ih:=ws_congr h k
  simp only[ws,ih]
theorem stepS_congr{K:Nat→Int}{s:S8}{x y:Nat→Int}(h:∀j,j < 64→x j=y j):stepS K s x=stepS K s y:=by
 unfold stepS
 rw[ws_congr h 48]
theorem stL_left{K:Nat→Int}{A B:List Int}{s:S8}{q:Nat}(h:A.length=64 * q):∀k,k≤q→stL K (A ++ B) s k=stL K A s k
 | 0,_=>rfl
 | k+1,hk=>by
  simp only[stL]
  rw[stL_left h k (by omega)]
  exact stepS_congr fun j hj=>blk_left (by omega) j hj
theorem stL_right{K:Nat→Int}{A B:List Int}{s:S8}{q:Nat}(h:A.length=64 * q):∀k,stL K (A ++ B) s (q+k)=stL K B (stL K A s q) k
 | 0=>stL_left h q (Nat.le_refl _)
 | k+1=>by
  show stepS K (stL K (A ++ B) s (q+k)) (blk (A ++ B) (q+k))=stepS K (stL K B (stL K A s q) k) (blk B k)
  rw[stL_right h k]
  exact stepS_congr fun j _=>blk_right h k j
theorem sumS_split{xs:List Int}{n e:Nat}(hn:n=xs.length)(he:e=n - n % 64):sumS xs=stL kT (xs.drop e ++ padL n) (stL kT (xs.take e) s0 (e / 64)) ((n - e+zr n+9) / 64):=by
 subst hn
 unfold sumS
 have hl:(xs.take e).length=64 * (e / 64):=by rw[List.length_take]; omega
 have h1:=stL_right (K:=kT) (A:=xs.take e) (B:=xs.drop e ++ padL xs.length) (s:=s0) hl ((xs.length - e+zr xs.length+9) / 64)
 rw[←List.append_assoc,List.take_append_drop] at h1
 rw[←h1]
 congr 1
 unfold zr
 omega
def sumB(t:S8)(i:Nat):Int:=t.at (i / 4) / 2 ^ (24 - 8 * (i % 4)) % 256
def outF(t:S8)(k i:Nat):Int:=if i < 4 * k then sumB t i else 0
structure FinW(t:S8)(gs:Nat)(w:World)(k:Nat)(wr:World):Prop where
 out:wr.heap[gs]?=some (.cells (arr 32 (vu8 (outF t k))) 22 (0,0))
 res:wr.heap[w.heap.size]?=some (.cells (arr 32 (vu8 fun _=>0)) 22 (0,0))
 below:Below w.heap.size w wr
 far:w.heap.size < gs
theorem FinW.start{t:S8}{w W3:World}(hr:W3.heap[w.heap.size]?=some (.cells (arr 32 (vu8 fun _=>0)) 22 (0,0)))(hb:Below w.heap.size w W3)(hl:w.heap.size < W3.heap.size) :
  FinW t W3.heap.size w 0 (W3.alloc (.cells (arr 32 (vu8 fun _=>0)) 22)):=by
 refine⟨?_,?_,hb.alloc hb.size _,hl⟩
 ·rw[show arr 32 (vu8 (outF t 0))=arr 32 (vu8 fun _=>0) from arr_congr fun i _=>by simp[vu8,outF]]; exact heap_alloc_new _ _
 ·rw[heap_alloc_old _ _ hl]; exact hr
theorem cell_set{w:World}{g m:Nat}{f:Nat→Value}{t:TypeId}(h:w.heap[g]?=some (.cells (arr m f) t (0,0)))(j:Nat)(v:Value) :
  (w.setCell ⟨g,j,none⟩ v).heap[g]?=some (.cells (arr m fun i=>if i=j then v else f i) t (0,0)):=by
 have e:=heap_setCell_same w g j (arr m f) t v h
 rwa [arr_set] at e
theorem FinW.there{t:S8}{gs:Nat}{w:World}{k:Nat}{wr:World}(h:FinW t gs w k wr){j:Nat}(hj:j < 32):∃v,wr.cell? ⟨gs,j,none⟩=some v:=⟨_,by rw[cell_of_row wr gs j _ _ _ h.out,arr_get _ hj]⟩
theorem FinW.free{t:S8}{gs:Nat}{w:World}{k:Nat}{wr:World}(h:FinW t gs w k wr)(j:Nat):wr.frozen? ⟨gs,j,none⟩=false:=frozen_of_row wr gs j _ _ h.out
theorem slice_block32(b k:Nat)(hk:k < 8)(W:World):(Instr.sliceAt 22 (.pointer (some ⟨b,0,none⟩)) (some (.int .i64 (4 * (k:Int)))) none none).run Tryz.prog W=.ok (.slice (some ⟨b,4 * k,none⟩) (32 - 4 * k) (32 - 4 * k)) W:=by
 have hal:Tryz.prog.arrayLen 22=32:=by kernel_rfl
 have hsz:(sizeOf (Tryz.prog.elem 22)).run Tryz.prog W=.ok 1 W:=by kernel_rfl
 rw[run_sliceAt_array_l W 22 ⟨b,0,none⟩ (by kernel_rfl) .i64 (4 * (k:Int)) (by omega) (by rw[hal]; omega),hsz,hal]
 have e:(4 * (k:Int)).toNat=4 * k:=by omega
 simp only[Result.andThen,slicedAt,e,Nat.mul_one]
 rw[if_neg (by omega)]
 simp[Addr.add]
 omega
theorem run_index8(f:Nat→Int)(k:Nat)(hk:k < 8)(W:World):(Instr.index 189 (.agg (arr 8 (vu32 f))) (.int .i64 (k:Int))).run Tryz.prog W=.ok (.int .u32 (f k)) W:=by
 match k,hk with
 | 0,_=>
  show(Instr.index 189 (.agg (arr 8 (vu32 f))) (.int .i64 0)).run Tryz.prog W=.ok (.int .u32 (f 0)) W
  kernel_rfl
 | 1,_=>
  show(Instr.index 189 (.agg (arr 8 (vu32 f))) (.int .i64 1)).run Tryz.prog W=.ok (.int .u32 (f 1)) W
  kernel_rfl
 | 2,_=>
  show(Instr.index 189 (.agg (arr 8 (vu32 f))) (.int .i64 2)).run Tryz.prog W=.ok (.int .u32 (f 2)) W
  kernel_rfl
 | 3,_=>
  show(Instr.index 189 (.agg (arr 8 (vu32 f))) (.int .i64 3)).run Tryz.prog W=.ok (.int .u32 (f 3)) W
  kernel_rfl
 | 4,_=>
  show(Instr.index 189 (.agg (arr 8 (vu32 f))) (.int .i64 4)).run Tryz.prog W=.ok (.int .u32 (f 4)) W
  kernel_rfl
 | 5,_=>
  show(Instr.index 189 (.agg (arr 8 (vu32 f))) (.int .i64 5)).run Tryz.prog W=.ok (.int .u32 (f 5)) W
  kernel_rfl
 | 6,_=>
  show(Instr.index 189 (.agg (arr 8 (vu32 f))) (.int .i64 6)).run Tryz.prog W=.ok (.int .u32 (f 6)) W
  kernel_rfl
 | 7,_=>
  show(Instr.index 189 (.agg (arr 8 (vu32 f))) (.int .i64 7)).run Tryz.prog W=.ok (.int .u32 (f 7)) W
  kernel_rfl
 | n+8,h=>omega
theorem FinW.next{t:S8}{gs:Nat}{w:World}{k:Nat}{wr:World}(h:FinW t gs w k wr)(_hk:k < 8) :
  FinW t gs w (k+1) ((((wr.setCell ⟨gs,4 * k,none⟩ (.int .u8 (t.at k / 16777216 % 256))).setCell ⟨gs,4 * k+1,none⟩ (.int .u8 (t.at k / 65536 % 256))).setCell ⟨gs,4 * k+2,none⟩ (.int .u8 (t.at k / 256 % 256))).setCell ⟨gs,4 * k+3,none⟩ (.int .u8 (t.at k % 256))):=by
 have hf:=h.far
 refine⟨?_,?_,(((h.below.setCell (by simp only[]; omega) _).setCell (by simp only[]; omega) _).setCell (by simp only[]; omega) _).setCell (by simp only[]; omega) _,hf⟩
 ·have e2:arr 32 (vu8 (outF t (k+1)))=arr 32 (fun i=>if i=4 * k+3 then Value.int .u8 (t.at k % 256) else if i=4 * k+2 then Value.int .u8 (t.at k / 256 % 256) else if i=4 * k+1 then Value.int .u8 (t.at k / 65536 % 256) else if i=4 * k then Value.int .u8 (t.at k / 16777216 % 256) else vu8 (outF t k) i):=arr_congr fun i hi=>by
   symm
   simp only[vu8,outF]
   rcases (show i < 4 * k∨i=4 * k∨i=4 * k+1∨i=4 * k+2∨i=4 * k+3∨4 * (k+1)≤i by omega) with c | c | c | c | c | c
   ·rw[if_neg (by omega),if_neg (by omega),if_neg (by omega),if_neg (by omega),if_pos c,if_pos (by omega)]
   ·rw[if_neg (by omega),if_neg (by omega),if_neg (by omega),if_pos c,if_pos (by omega)]
    unfold sumB
    rw[show i / 4=k by omega,show i % 4=0 by omega]; rfl
   ·rw[if_neg (by omega),if_neg (by omega),if_pos c,if_pos (by omega)]
    unfold sumB
    rw[show i / 4=k by omega,show i % 4=1 by omega]; rfl
   ·rw[if_neg (by omega),if_pos c,if_pos (by omega)]
    unfold sumB
    rw[show i / 4=k by omega,show i % 4=2 by omega]; rfl
   ·rw[if_pos c,if_pos (by omega)]
    unfold sumB
    rw[show i / 4=k by omega,show i % 4=3 by omega]; simp
   ·rw[if_neg (by omega),if_neg (by omega),if_neg (by omega),if_neg (by omega),if_neg (by omega),if_neg (by omega)]
  rw[e2]
  exact cell_set (cell_set (cell_set (cell_set h.out (4 * k) _) (4 * k+1) _) (4 * k+2) _) (4 * k+3) _
 ·rw[heap_setCell_other _ _ _ _ (by simp only[]; omega),heap_setCell_other _ _ _ _ (by simp only[]; omega),heap_setCell_other _ _ _ _ (by simp only[]; omega),heap_setCell_other _ _ _ _ (by simp only[]; omega)]
  exact h.res
def Sl(ys:List Int)(w:World)(u:Value):Prop:=∃a k c,u=.slice a k c∧Hid (k=ys.length)∧Lies w w.heap.size a c ys
def Sl2(T:Value)(ys:List Int)(w:World)(u:Value):Prop:=∃g a k c,u=.slice (some ⟨g,0,none⟩) 2 2∧w.cell? ⟨g,0,none⟩=some T∧w.cell? ⟨g,1,none⟩=some (.slice a k c)∧Hid (k=ys.length)∧Lies w w.heap.size a c ys
theorem Sl.later{ys:List Int}{w w':World}{u:Value}(h:Sl ys w u)(b:Below w.heap.size w w'):Sl ys w' u:=by
 obtain⟨a,k,c,e,hk,hl⟩:=h
 exact⟨a,k,c,e,hk,(hl.below b).more b.size⟩
theorem Sl2.later{T:Value}{ys:List Int}{w w':World}{u:Value}(h:Sl2 T ys w u)(b:Below w.heap.size w w'):Sl2 T ys w' u:=by
 obtain⟨g,a,k,c,e,h0,h1,hk,hl⟩:=h
 have hg:=block_lt_of_cell h0
 exact⟨g,a,k,c,e,(b.cell (p:=⟨g,0,none⟩) hg).trans h0,(b.cell (p:=⟨g,1,none⟩) hg).trans h1,hk,(hl.below b).more b.size⟩
theorem sl_own{w:World}{base:Nat}{v:Value}{ys:List Int}(h:w.ownsRow base 5 1 v ys.length (bys ys)):Sl ys w v:=by
 obtain⟨a,c,rfl⟩:=own_form h
 exact⟨a,_,c,rfl,Lib.hid rfl,lies_own h⟩
def SumInv2(u8 u9 u10 u11 u12 u13 B T1 T2:Value)(e n g:Nat)(ds:List Int)(H H2:S8)(w W:World)(L:Nat→Bool)(a:Act)(w':World):Prop:=
 ∃u19 u20 u21 u22 u23 u24 u25 u26 u27 u28,a={ tmps:=#[B,undef,.pointer (some ⟨w.heap.size,0,none⟩),.int .i64 e,.pointer (some ⟨g,0,none⟩),undef,undef,undef,u8,u9,u10,u11,u12,u13,.agg (arr 8 (vu32 s0.at)),B,.int .i64 e,T1,.agg (arr 8 (vu32 H.at)),
  u19,u20,u21,u22,u23,u24,u25,u26,u27,u28,undef,undef,undef,undef,undef,undef,undef,undef,undef,undef,undef,undef],defers:=[] }∧
  (L 0=true→u19=.agg (arr 8 (vu32 H.at)))∧(L 1=true→u20=B)∧(L 2=true→u21=.int .i64 e)∧(L 3=true→u22=T2)∧(L 4=true→u23=B)∧(L 5=true→u24=.int .i64 n)∧
  (L 6=true→Sl (padL n) w' u25)∧(L 7=true→Sl2 T2 (padL n) w' u26)∧(L 8=true→Sl (ds ++ padL n) w' u27)∧(L 9=true→u28=.agg (arr 8 (vu32 H2.at)))∧Below W.heap.size W w'
theorem sum_any(n:Nat)(ao:Option Addr)(cap:Nat)(xs:List Int)(w:World)(hn:n=xs.length)(hl:Lies w w.heap.size ao cap xs)(hx:Byte xs)(hlen:n≤140737488351232)
  (hK:∀k,k < 64→w.cell? ⟨0,k,none⟩=some (.int .u32 (kT k))) (hz:0 < w.heap.size) :
  Calls Tryz.prog 119 #[.slice ao n cap] w fun e w'=>e=.returned (.agg (arr 32 (vu8 (sumB (sumS xs)))))∧Below w.heap.size w w':=by
 obtain⟨F,hF0⟩:∃F,F=sumS xs:=⟨_,rfl⟩
 rw[←hF0]
 have HF:=Lib.hid hF0
 clear hF0
 obtain⟨e,he⟩:∃e,e=n - n % 64:=⟨_,rfl⟩
 have hen:e≤n:=by omega
 have hei:(n:Int) - (n:Int) % 64=(e:Int):=by omega
 obtain⟨hcut1,hl1⟩:=run_cut_hi hl hn hen
 obtain⟨a2,hcut2,hl2⟩:=run_cut_lo hl hn hen
 have HX:=Lib.hid hx
 have HK:=Lib.hid hK
 have HN:=Lib.hid hn
 have HE:=Lib.hid he
 have HC1:=Lib.hid hcut1
 have HC2:=Lib.hid hcut2
 have HL1:=Lib.hid hl1
 have HL2:=Lib.hid hl2
 clear hx hK hl hn he hcut1 hcut2 hl1 hl2
 go_enter Tryz.func119,Tryz.ntmps119
 go_wp2_with fail
 simp only[zeros32]
 have hres:(w.alloc (.cells (arr 32 (vu8 fun _=>0)) 22)).heap[w.heap.size]?=some (.cells (arr 32 (vu8 fun _=>0)) 22 (0,0)):=heap_alloc_new _ _
 have hb:Below w.heap.size w (w.alloc (.cells (arr 32 (vu8 fun _=>0)) 22)):=(Below.refl _ _).alloc (Nat.le_refl _) _
 have hs:w.heap.size < (w.alloc (.cells (arr 32 (vu8 fun _=>0)) 22)).heap.size:=by simp
 generalize w.alloc (.cells (arr 32 (vu8 fun _=>0)) 22)=W at hres hb hs ⊢
 have HRES:=Lib.hid hres
 clear hres hei
 obtain⟨H,hH⟩:∃H,H=stL kT (xs.take e) s0 (e / 64):=⟨_,rfl⟩
 have HH:=Lib.hid hH
 clear hH
 refine QuietTail.regionInv (n:=6) (Inv:=SumInv1 (.slice ao n cap) (.slice ao e cap) e H w W) (by kernel_rfl) (by decide) (by kernel_rfl) ⟨_,_,_,_,_,_,_,_,_,_,_,_,rfl,by simp,by simp,by simp,by simp,by simp,by simp,⟨rfl,rfl,rfl,Nat.le_refl _,fun _ _=>rfl⟩⟩ ?step ?fin
 case step=>
  rintro i o hi ho L a w' ⟨u8,u9,u10,u11,u12,u13,u14,u15,u16,u17,u18,u4,rfl,i0,i1,i2,i3,i4,i5,iB⟩ hL hpre
  have hsz:=iB.size
  match i,hi with
  | 0,_=>
   simp at ho
   subst ho
   go_simp
   refine(roots8_any w').mono ?_
   rw[s0_arr]
   rintro _ w'' ⟨rfl,hb2⟩
   refine⟨u8,u9,u10,u11,u12,u13,_,u15,u16,u17,u18,u4,rfl,fun _=>rfl,kL i1 rfl,kL i2 rfl,kL i3 rfl,kL i4 rfl,kL (fun h=>?_) rfl,iB.trans (hb2.mono hsz)⟩
   obtain⟨g,e1,g1,g2,g3⟩:=i5 h
   exact⟨g,e1,g1,Nat.lt_of_lt_of_le g2 hb2.size,(hb2.block g g2).trans g3⟩
  | 1,_=>
   simp at ho
   subst ho
   go_simp
   exact⟨u8,u9,u10,u11,u12,u13,u14,_,u16,u17,u18,u4,rfl,kL i0 rfl,fun _=>rfl,kL i2 rfl,kL i3 rfl,kL i4 rfl,kL i5 rfl,iB⟩
  | 2,_=>
   simp at ho
   subst ho
   go_simp
   exact⟨u8,u9,u10,u11,u12,u13,u14,u15,_,u17,u18,u4,rfl,kL i0 rfl,kL i1 rfl,fun _=>rfl,kL i3 rfl,kL i4 rfl,kL i5 rfl,iB⟩
  | 3,_=>
   simp at ho
   subst ho
   obtain rfl:=i1 (hpre 1 (by kernel_rfl))
   obtain rfl:=i2 (hpre 2 (by kernel_rfl))
   have hcut:=HC1.out w'
   go_simp
   exact⟨u8,u9,u10,u11,u12,u13,u14,_,_,_,u18,u4,rfl,kL i0 rfl,fun _=>rfl,fun _=>rfl,fun _=>rfl,kL i4 rfl,kL i5 rfl,iB⟩
  | 4,_=>
   simp at ho
   subst ho
   obtain rfl:=i0 (hpre 0 (by kernel_rfl))
   obtain rfl:=i3 (hpre 3 (by kernel_rfl))
   go_simp
   refine(steps_any s0 e (e / 64) ao cap (xs.take e) w' kT (by have:=HN.out; rw[List.length_take]; omega) (by have:=HE.out; omega) ((((HL1.out.below hb).more (Nat.le_of_lt hs)).below iB).more hsz) (byte_take HX.out e) (by omega)
    (fun k hk=>by rw[iB.cell (show 0 < W.heap.size by omega),hb.cell (show 0 < w.heap.size from hz)]; exact HK.out k hk) (by omega)).mono ?_
   rw[←HH.out]
   rintro _ w'' ⟨rfl,hb2⟩
   refine⟨u8,u9,u10,u11,u12,u13,_,u15,u16,_,_,u4,rfl,fun _=>rfl,kL i1 rfl,kL i2 rfl,fun _=>rfl,fun _=>rfl,kL (fun h=>?_) rfl,iB.trans (hb2.mono hsz)⟩
   obtain⟨g,e1,g1,g2,g3⟩:=i5 h
   exact⟨g,e1,g1,Nat.lt_of_lt_of_le g2 hb2.size,(hb2.block g g2).trans g3⟩
  | 5,_=>
   simp at ho
   subst ho
   go_simp
   exact⟨u8,u9,u10,u11,u12,u13,u14,u15,u16,u17,u18,_,rfl,kL i0 rfl,kL i1 rfl,kL i2 rfl,kL i3 rfl,kL i4 rfl,
    fun _=>⟨w'.heap.size,rfl,hsz,by simp,by rw[zeros8]; exact heap_alloc_new _ _⟩,iB.alloc hsz _⟩
  | n+6,h=>omega
 case fin=>
  rintro L a w' hall ⟨u8,u9,u10,u11,u12,u13,u14,u15,u16,u17,u18,u4,rfl,i0,i1,i2,i3,i4,i5,iB⟩
  obtain rfl:=i0 (hall 0 (by omega))
  obtain rfl:=i1 (hall 1 (by omega))
  obtain rfl:=i2 (hall 2 (by omega))
  obtain rfl:=i3 (hall 3 (by omega))
  obtain rfl:=i4 (hall 4 (by omega))
  obtain⟨g,rfl,g1,g2,g3⟩:=i5 (hall 5 (by omega))
  clear i0 i1 i2 i3 i4 i5 hall
  simp only[List.drop_succ_cons,List.drop_zero]
  refine wpList_store_row rfl 189 (.tmp 4) (.tmp 18) rfl g (arr 8 (vu32 H.at)) rfl rfl 189 _ g3 info8 (by rw[arr_size,arr_size]) (arr_one _ _) ?_
  have hg:(w'.setRow g (arr 8 (vu32 H.at))).heap[g]?=some (.cells (arr 8 (vu32 H.at)) 189 (0,0)):=setRow_heap w' _ _ _ _ _ g3
  have hbf:=below_setRow iB (g:=g) g1 (arr 8 (vu32 H.at))
  have hsz:(w'.setRow g (arr 8 (vu32 H.at))).heap.size=w'.heap.size:=size_setRow _ _ _
  generalize w'.setRow g (arr 8 (vu32 H.at))=W2 at hg hbf hsz ⊢
  have hbw:Below w.heap.size w W2:=hb.trans (hbf.mono (by omega))
  have hr2:W2.heap[w.heap.size]?=some (.cells (arr 32 (vu8 fun _=>0)) 22 (0,0)):=(hbf.block _ hs).trans HRES.out
  have hgl:g < W2.heap.size:=by omega
  have hgw:w.heap.size < g:=by omega
  clear hsz hbf g3 iB g2 hb
  have HG:=Lib.hid hg
  have HR2:=Lib.hid hr2
  have HBW:=Lib.hid hbw
  clear hg hr2 hbw
  simp only[Act.put]
  go_wp2_with fail
  obtain⟨H2,hH2⟩:∃H2,H2=stL kT (xs.drop e ++ padL n) H ((n - e+zr n+9) / 64):=⟨_,rfl⟩
  have HH2:=Lib.hid hH2
  clear hH2
  have hpl:=padL_length n
  have hdl:(xs.drop e).length=n - e:=by rw[List.length_drop,←HN.out]
  have hzr:zr n < 64:=by unfold zr; omega
  have hdv:n - e+zr n+9=64 * ((n - e+zr n+9) / 64):=by have:=HE.out; unfold zr; omega
  have HDV:=Lib.hid hdv
  have HPL:=Lib.hid hpl
  have HDL:=Lib.hid hdl
  clear hdv hpl hdl
  refine QuietTail.regionInv (n:=10) (Inv:=SumInv2 u8 u9 u10 u11 u12 u13 (.slice ao n cap) (.slice ao e cap) (.slice a2 (n - e) (cap - e)) e n g (xs.drop e) H H2 w W2) (by kernel_rfl) (by decide) (by kernel_rfl) ⟨_,_,_,_,_,_,_,_,_,_,rfl,by simp,by simp,by simp,by simp,by simp,by simp,by simp,by simp,by simp,by simp,⟨rfl,rfl,rfl,Nat.le_refl _,fun _ _=>rfl⟩⟩ ?step2 ?fin2
  case step2=>
   rintro i o hi ho L a w' ⟨u19,u20,u21,u22,u23,u24,u25,u26,u27,u28,rfl,i0,i1,i2,i3,i4,i5,i6,i7,i8,i9,iB⟩ hL hpre
   have hsz:=iB.size
   match i,hi with
   | 0,_=>
    simp at ho
    subst ho
    refine wp_load_row 189 (.tmp 4) rfl g rfl 189 (arr 8 (vu32 H.at)) (0,0) (.array 8 188) ((iB.block _ hgl).trans HG.out) (by kernel_rfl) rfl info8 ?_
    exact⟨_,u20,u21,u22,u23,u24,u25,u26,u27,u28,rfl,fun _=>rfl,kL i1 rfl,kL i2 rfl,kL i3 rfl,kL i4 rfl,kL i5 rfl,kL i6 rfl,kL i7 rfl,kL i8 rfl,kL i9 rfl,iB⟩
   | 1,_=>
    simp at ho
    subst ho
    go_simp
    exact⟨u19,_,u21,u22,u23,u24,u25,u26,u27,u28,rfl,kL i0 rfl,fun _=>rfl,kL i2 rfl,kL i3 rfl,kL i4 rfl,kL i5 rfl,kL i6 rfl,kL i7 rfl,kL i8 rfl,kL i9 rfl,iB⟩
   | 2,_=>
    simp at ho
    subst ho
    go_simp
    exact⟨u19,u20,_,u22,u23,u24,u25,u26,u27,u28,rfl,kL i0 rfl,kL i1 rfl,fun _=>rfl,kL i3 rfl,kL i4 rfl,kL i5 rfl,kL i6 rfl,kL i7 rfl,kL i8 rfl,kL i9 rfl,iB⟩
   | 3,_=>
    simp at ho
    subst ho
    obtain rfl:=i1 (hpre 1 (by kernel_rfl))
    obtain rfl:=i2 (hpre 2 (by kernel_rfl))
    have hcut:=HC2.out w'
    go_simp
    exact⟨u19,_,_,_,u23,u24,u25,u26,u27,u28,rfl,kL i0 rfl,fun _=>rfl,fun _=>rfl,fun _=>rfl,kL i4 rfl,kL i5 rfl,kL i6 rfl,kL i7 rfl,kL i8 rfl,kL i9 rfl,iB⟩
   | 4,_=>
    simp at ho
    subst ho
    go_simp
    exact⟨u19,u20,u21,u22,_,u24,u25,u26,u27,u28,rfl,kL i0 rfl,kL i1 rfl,kL i2 rfl,kL i3 rfl,fun _=>rfl,kL i5 rfl,kL i6 rfl,kL i7 rfl,kL i8 rfl,kL i9 rfl,iB⟩
   | 5,_=>
    simp at ho
    subst ho
    obtain rfl:=i4 (hpre 4 (by kernel_rfl))
    go_simp
    exact⟨u19,u20,u21,u22,_,_,u25,u26,u27,u28,rfl,kL i0 rfl,kL i1 rfl,kL i2 rfl,kL i3 rfl,fun _=>rfl,fun _=>rfl,kL i6 rfl,kL i7 rfl,kL i8 rfl,kL i9 rfl,iB⟩
   | 6,_=>
    simp at ho
    subst ho
    obtain rfl:=i5 (hpre 5 (by kernel_rfl))
    go_simp
    refine(padding_any n w' (by omega)).mono ?_
    rintro _ w'' ⟨v,rfl,hown,hb2⟩
    exact⟨u19,u20,u21,u22,u23,_,v,u26,u27,u28,rfl,kL i0 rfl,kL i1 rfl,kL i2 rfl,kL i3 rfl,kL i4 rfl,fun _=>rfl,fun _=>sl_own hown,kL (fun h=>(i7 h).later hb2) rfl,kL (fun h=>(i8 h).later hb2) rfl,kL i9 rfl,iB.trans (hb2.mono hsz)⟩
   | 7,_=>
    simp at ho
    subst ho
    obtain rfl:=i3 (hpre 3 (by kernel_rfl))
    obtain⟨a1,k1,c1,rfl,hk1,hl1⟩:=i6 (hpre 6 (by kernel_rfl))
    go_simp
    have hbA:Below w'.heap.size w' (w'.alloc (.cells #[.slice a2 (n - e) (cap - e),.slice a1 k1 c1] 39)):=(Below.refl _ _).alloc (Nat.le_refl _) _
    have hl3:Lies (w'.alloc (.cells #[.slice a2 (n - e) (cap - e),.slice a1 k1 c1] 39)) (w'.alloc (.cells #[.slice a2 (n - e) (cap - e),.slice a1 k1 c1] 39)).heap.size a1 c1 (padL n):=(hl1.below hbA).more hbA.size
    exact⟨u19,u20,u21,_,u23,u24,_,_,u27,u28,rfl,kL i0 rfl,kL i1 rfl,kL i2 rfl,fun _=>rfl,kL i4 rfl,kL i5 rfl,fun _=>⟨a1,k1,c1,rfl,hk1,hl3⟩,
     fun _=>⟨w'.heap.size,a1,k1,c1,rfl,by rw[World.cell?_alloc_new]; rfl,by rw[World.cell?_alloc_new]; rfl,hk1,hl3⟩,kL (fun h=>(i8 h).later hbA) rfl,kL i9 rfl,iB.trans (hbA.mono hsz)⟩
   | 8,_=>
    simp at ho
    subst ho
    obtain⟨g2,a1,k1,c1,rfl,d0,d1,hk1,hl1⟩:=i7 (hpre 7 (by kernel_rfl))
    go_simp
    refine(concat_any g2 (n - e) k1 a2 a1 (cap - e) c1 (xs.drop e) (padL n) w' HDL.out.symm hk1.out d0 d1 ((HL2.out.below HBW.out).below (iB.mono (by have:=HBW.out.size; omega)) |>.more (by have:=HBW.out.size; omega)) hl1 (by have:=HPL.out; have:=hk1.out; omega) (by have:=HPL.out; have:=hk1.out; omega)).mono ?_
    rintro _ w'' ⟨v,rfl,hown,hb2⟩
    exact⟨u19,u20,u21,u22,u23,u24,u25,_,v,u28,rfl,kL i0 rfl,kL i1 rfl,kL i2 rfl,kL i3 rfl,kL i4 rfl,kL i5 rfl,kL (fun h=>(i6 h).later hb2) rfl,kL (fun h=>(i7 h).later hb2) rfl,fun _=>sl_own hown,kL i9 rfl,iB.trans (hb2.mono hsz)⟩
   | 9,_=>
    simp at ho
    subst ho
    obtain rfl:=i0 (hpre 0 (by kernel_rfl))
    obtain⟨a1,k1,c1,rfl,hk1,hl1⟩:=i8 (hpre 8 (by kernel_rfl))
    go_simp
    refine(steps_any H k1 ((n - e+zr n+9) / 64) a1 c1 (xs.drop e ++ padL n) w' kT hk1.out (by have h1:=HDV.out; have h2:=HDL.out; have h3:=HPL.out; have h4:=hk1.out; rw[List.length_append] at h4; omega) hl1 (byte_append (byte_drop HX.out e) (byte_padK _ _)) (by have h2:=HDL.out; have h3:=HPL.out; have h4:=hk1.out; rw[List.length_append] at h4; omega)
     (fun k hk=>by rw[iB.cell (show 0 < W2.heap.size by omega),HBW.out.cell (show 0 < w.heap.size from hz)]; exact HK.out k hk) (by omega)).mono ?_
    rw[←HH2.out]
    rintro _ w'' ⟨rfl,hb2⟩
    exact⟨_,u20,u21,u22,u23,u24,u25,u26,_,_,rfl,fun _=>rfl,kL i1 rfl,kL i2 rfl,kL i3 rfl,kL i4 rfl,kL i5 rfl,kL (fun h=>(i6 h).later hb2) rfl,kL (fun h=>(i7 h).later hb2) rfl,kL (fun h=>(i8 h).later hb2) rfl,fun _=>rfl,iB.trans (hb2.mono hsz)⟩
   | n+10,h=>omega
  case fin2=>
   rintro L a w' hall ⟨u19,u20,u21,u22,u23,u24,u25,u26,u27,u28,rfl,i0,i1,i2,i3,i4,i5,i6,i7,i8,i9,iB⟩
   obtain rfl:=i9 (hall 9 (by omega))
   clear i0 i1 i2 i3 i4 i5 i6 i7 i8 i9 hall
   simp only[List.drop_succ_cons,List.drop_zero]
   have hg3:=(iB.block _ hgl).trans HG.out
   refine wpList_store_row rfl 189 (.tmp 4) (.tmp 28) rfl g (arr 8 (vu32 H2.at)) rfl rfl 189 _ hg3 info8 (by rw[arr_size,arr_size]) (arr_one _ _) ?_
   have hbw:=HBW.out
   have hws:=hbw.size
   have hsz:=iB.size
   have hg:(w'.setRow g (arr 8 (vu32 H2.at))).heap[g]?=some (.cells (arr 8 (vu32 H2.at)) 189 (0,0)):=setRow_heap w' _ _ _ _ _ hg3
   have hr:(w'.setRow g (arr 8 (vu32 H2.at))).heap[w.heap.size]?=some (.cells (arr 32 (vu8 fun _=>0)) 22 (0,0)):=by
    rw[setRow_other _ _ _ _ (by omega)]; exact(iB.block _ (by omega)).trans HR2.out
   have hb3:Below w.heap.size w (w'.setRow g (arr 8 (vu32 H2.at))):=below_setRow (hbw.trans (iB.mono hws)) (by omega) _
   have hs3:(w'.setRow g (arr 8 (vu32 H2.at))).heap.size=w'.heap.size:=size_setRow _ _ _
   have hgl3:g < (w'.setRow g (arr 8 (vu32 H2.at))).heap.size:=by omega
   generalize w'.setRow g (arr 8 (vu32 H2.at))=W3 at hg hr hb3 hgl3 ⊢
   have hL:∀Z:Array Value,(W3.alloc (.cells Z 22)).heap[g]?=some (.cells (arr 8 (vu32 H2.at)) 189 (0,0)):=fun Z=>by rw[heap_alloc_old _ _ hgl3]; exact hg
   have HLL:=Lib.hid hL
   have H0:Hid (FinW H2 W3.heap.size w 0 (W3.alloc (.cells (arr 32 (vu8 fun _=>0)) 22))):=FinW.start hr hb3 (by omega)
   clear hL hg hr hb3 hs3 hg3 iB hbw hws hsz HG HR2 HBW
   simp only[Act.put]
   repeat (first
    | (refine wpList_load_row rfl 189 (.tmp 4) rfl g rfl 189 (arr 8 (vu32 H2.at)) (0,0) (.array 8 188) (HLL.out _) (by kernel_rfl) rfl info8 ?_; simp only[Act.put,aA])
    | go_step)
   rw[zeros32]
   generalize W3.alloc (.cells (arr 32 (vu8 fun _=>0)) 22)=W4 at H0 ⊢
   generalize W3.heap.size=gs at H0 ⊢
   go_loopw [30] (fun i wr=>∃k:Nat,k≤8∧i=.int .i64 k∧FinW H2 gs w k wr) (fun i _=>8 - (intOf i).toNat)
   case atStart=>exact⟨0,by omega,rfl,H0.out⟩
   case round=>
    clear H0 HLL
    obtain⟨k,hk,rfl,hA⟩:=hrel
    by_cases hlt:k < 8
    ·have hix:=run_index8 H2.at k hlt
     have hsl:=slice_block32 gs k hlt
     go_wp2_with fail
     refine(put_any gs (4 * k) (32 - 4 * k) (32 - 4 * k) (H2.at k) wr (by omega) (by omega) (hA.there (by omega)) (hA.there (by omega)) (hA.there (by omega)) (hA.there (by omega)) (hA.free _) (hA.free _) (hA.free _) (hA.free _)).mono ?_
     rintro _ w5 ⟨rfl,hw5⟩
     have hN:=hA.next hlt
     rw[←hw5] at hN
     clear hw5 hA hix hsl
     dsimp only
     go_wp2_with fail
     go_roundw
     case rel=>exact⟨k+1,by omega,by go_num,hN⟩
     case measure=>simp[intOf]; omega
    ·obtain rfl:k=8:=by omega
     have hg:=hA.out
     have h2:=hA.res
     have hb:=hA.below
     have e8:arr 32 (vu8 (outF H2 8))=arr 32 (vu8 (sumB F)):=by
      have hF:=HF.out
      rw[sumS_split HN.out HE.out,←HH.out,←HH2.out] at hF
      rw[hF]
      refine arr_congr fun i hi=>?_
      simp only[vu8,outF]
      rw[if_pos (by omega)]
     rw[e8] at hg
     have hres:(wr.setRow w.heap.size (arr 32 (vu8 (sumB F)))).heap[w.heap.size]?=some (.cells (arr 32 (vu8 (sumB F))) 22 (0,0)):=setRow_heap wr _ _ _ _ _ h2
     have hb2:=below_setRow hb (g:=w.heap.size) (Nat.le_refl _) (arr 32 (vu8 (sumB F)))
     clear hA hk hlt
     repeat (first
      | (refine wpList_load_row rfl 22 (.tmp 5) rfl gs rfl 22 (arr 32 (vu8 (sumB F))) (0,0) (.array 32 5) hg (by kernel_rfl) rfl info32 ?_; simp only[Act.put,aA])
      | (refine wpList_store_row rfl 22 (.tmp 2) (.tmp 40) rfl w.heap.size (arr 32 (vu8 (sumB F))) rfl rfl 22 _ h2 info32 (by rw[arr_size,arr_size]) (arr_one8 _ _) ?_; simp only[Act.put])
      | go_step)
     refine bodyPost_ret (results_cell_row rfl _ _ w.heap.size 22 (arr 32 (vu8 (sumB F))) (0,0) (.array 32 5) rfl hres (by kernel_rfl) rfl info32) rfl ⟨rfl,hb2⟩
end Sha
namespace Sha
open Go.RowKit Go.Sort
def SL:List S8:=[
 ⟨1779033703,3144134277,1013904242,2773480762,1359893119,2600822924,528734635,1541459225⟩,
 ⟨1567288269,1779033703,3144134277,1013904242,4197074466,1359893119,2600822924,528734635⟩,
 ⟨1516951981,1567288269,1779033703,3144134277,2026797449,4197074466,1359893119,2600822924⟩,
 ⟨3368241063,1516951981,1567288269,1779033703,4180228587,2026797449,4197074466,1359893119⟩,
 ⟨3578852966,3368241063,1516951981,1567288269,618661968,4180228587,2026797449,4197074466⟩,
 ⟨71342698,3578852966,3368241063,1516951981,1135452741,618661968,4180228587,2026797449⟩,
 ⟨725748213,71342698,3578852966,3368241063,1900175533,1135452741,618661968,4180228587⟩,
 ⟨3842179968,725748213,71342698,3578852966,2603066369,1900175533,1135452741,618661968⟩,
 ⟨2241887071,3842179968,725748213,71342698,207977081,2603066369,1900175533,1135452741⟩,
 ⟨2382687417,2241887071,3842179968,725748213,852110732,207977081,2603066369,1900175533⟩,
 ⟨2357671019,2382687417,2241887071,3842179968,482944406,852110732,207977081,2603066369⟩,
 ⟨1201185780,2357671019,2382687417,2241887071,1131095016,482944406,852110732,207977081⟩,
 ⟨4146054569,1201185780,2357671019,2382687417,2171590377,1131095016,482944406,852110732⟩,
 ⟨2274437520,4146054569,1201185780,2357671019,509051416,2171590377,1131095016,482944406⟩,
 ⟨3643992854,2274437520,4146054569,1201185780,1952073950,509051416,2171590377,1131095016⟩,
 ⟨3227803614,3643992854,2274437520,4146054569,194179596,1952073950,509051416,2171590377⟩,
 ⟨2969183118,3227803614,3643992854,2274437520,123276749,194179596,1952073950,509051416⟩,
 ⟨567974555,2969183118,3227803614,3643992854,2150900380,123276749,194179596,1952073950⟩,
 ⟨3271285201,567974555,2969183118,3227803614,2221859924,2150900380,123276749,194179596⟩,
 ⟨4269243327,3271285201,567974555,2969183118,3431569761,2221859924,2150900380,123276749⟩,
 ⟨3790736435,4269243327,3271285201,567974555,2959311225,3431569761,2221859924,2150900380⟩,
 ⟨2647034723,3790736435,4269243327,3271285201,2329577776,2959311225,3431569761,2221859924⟩,
 ⟨3261099373,2647034723,3790736435,4269243327,3777329520,2329577776,2959311225,3431569761⟩,
 ⟨2812502591,3261099373,2647034723,3790736435,1240797514,3777329520,2329577776,2959311225⟩,
 ⟨3319086477,2812502591,3261099373,2647034723,2856829767,1240797514,3777329520,2329577776⟩,
 ⟨472655928,3319086477,2812502591,3261099373,673443729,2856829767,1240797514,3777329520⟩,
 ⟨3454534525,472655928,3319086477,2812502591,339230094,673443729,2856829767,1240797514⟩,
 ⟨3056518332,3454534525,472655928,3319086477,3343672598,339230094,673443729,2856829767⟩,
 ⟨2010346792,3056518332,3454534525,472655928,3992961016,3343672598,339230094,673443729⟩,
 ⟨909411017,2010346792,3056518332,3454534525,1628611511,3992961016,3343672598,339230094⟩,
 ⟨2684750640,909411017,2010346792,3056518332,2917635127,1628611511,3992961016,3343672598⟩,
 ⟨3935906338,2684750640,909411017,2010346792,17410874,2917635127,1628611511,3992961016⟩,
 ⟨1941126133,3935906338,2684750640,909411017,3126399250,17410874,2917635127,1628611511⟩,
 ⟨2564891911,1941126133,3935906338,2684750640,2631529974,3126399250,17410874,2917635127⟩,
 ⟨4267724277,2564891911,1941126133,3935906338,1495571923,2631529974,3126399250,17410874⟩,
 ⟨2846323596,4267724277,2564891911,1941126133,140458035,1495571923,2631529974,3126399250⟩,
 ⟨1705037796,2846323596,4267724277,2564891911,4105175766,140458035,1495571923,2631529974⟩,
 ⟨1101421745,1705037796,2846323596,4267724277,124953195,4105175766,140458035,1495571923⟩,
 ⟨887035396,1101421745,1705037796,2846323596,2768741693,124953195,4105175766,140458035⟩,
 ⟨1841658506,887035396,1101421745,1705037796,4034403272,2768741693,124953195,4105175766⟩,
 ⟨2045405306,1841658506,887035396,1101421745,519815328,4034403272,2768741693,124953195⟩,
 ⟨3597076326,2045405306,1841658506,887035396,641019235,519815328,4034403272,2768741693⟩,
 ⟨3745932591,3597076326,2045405306,1841658506,2206934801,641019235,519815328,4034403272⟩,
 ⟨397020670,3745932591,3597076326,2045405306,3737995029,2206934801,641019235,519815328⟩,
 ⟨2638983059,397020670,3745932591,3597076326,4255271982,3737995029,2206934801,641019235⟩,
 ⟨643991573,2638983059,397020670,3745932591,2819559920,4255271982,3737995029,2206934801⟩,
 ⟨1923828625,643991573,2638983059,397020670,3077922209,2819559920,4255271982,3737995029⟩,
 ⟨2706117808,1923828625,643991573,2638983059,3581645993,3077922209,2819559920,4255271982⟩,
 ⟨1098003085,2706117808,1923828625,643991573,4274981830,3581645993,3077922209,2819559920⟩,
 ⟨91585771,1098003085,2706117808,1923828625,3178315832,4274981830,3581645993,3077922209⟩,
 ⟨4045142696,91585771,1098003085,2706117808,1851537676,3178315832,4274981830,3581645993⟩,
 ⟨2047150241,4045142696,91585771,1098003085,1391578359,1851537676,3178315832,4274981830⟩,
 ⟨2288941602,2047150241,4045142696,91585771,1227037726,1391578359,1851537676,3178315832⟩,
 ⟨270520975,2288941602,2047150241,4045142696,1386118400,1227037726,1391578359,1851537676⟩,
 ⟨4117770203,270520975,2288941602,2047150241,2672265155,1386118400,1227037726,1391578359⟩,
 ⟨1053056219,4117770203,270520975,2288941602,3842906959,2672265155,1386118400,1227037726⟩,
 ⟨952932627,1053056219,4117770203,270520975,1422599787,3842906959,2672265155,1386118400⟩,
 ⟨4241590395,952932627,1053056219,4117770203,2606665836,1422599787,3842906959,2672265155⟩,
 ⟨3227702383,4241590395,952932627,1053056219,2118385806,2606665836,1422599787,3842906959⟩,
 ⟨4290184306,3227702383,4241590395,952932627,1837350854,2118385806,2606665836,1422599787⟩,
 ⟨3064893439,4290184306,3227702383,4241590395,2988158269,1837350854,2118385806,2606665836⟩,
 ⟨3093179625,3064893439,4290184306,3227702383,2518632596,2988158269,1837350854,2118385806⟩,
 ⟨80891244,3093179625,3064893439,4290184306,2492278198,2518632596,2988158269,1837350854⟩,
 ⟨3550093669,80891244,3093179625,3064893439,4212265488,2492278198,2518632596,2988158269⟩,
 ⟨1349398616,3550093669,80891244,3093179625,1593118500,4212265488,2492278198,2518632596⟩]
def sl(t:Nat):S8:=SL.getD t s0
end Sha
namespace Sha
open Go.RowKit Go.Sort
end Sha
namespace Sha
open Go.RowKit Go.Sort
section
variable {P:Program}{C:World→Prop}{a:Act}{o:Oper}{K:Act→Prop}
end
end Sha
namespace Sha
open Go.ChangeShapes Go.WideShapes Go.ChangeAt Go.RowKit
theorem own:ownKnob Tryz.prog.godebug=none:=by kernel_rfl
theorem gTab : Tryz.prog.globalNamed "lazaret/sha.stepNumbers" = some 0 := by kernel_rfl
theorem gTabType:(Tryz.prog.globals[0]?).map (·.type)=some 224:=by kernel_rfl
theorem under_tab:Tryz.prog.underlying 224=some (.array 64 188):=by kernel_rfl
theorem under_u32:Tryz.prog.underlying 188=some (.int .u32):=by kernel_rfl
theorem cells_u32:Tryz.prog.cellsOf 188=1:=by kernel_rfl
theorem cells_tab:Tryz.prog.cellsOf 224=64:=by kernel_rfl
theorem table {W : World} (h : laidMetH Tryz.prog [("lazaret/sha.stepNumbers", Rows.laid_lazaret_sha_stepNumbers)] W) : ∀ k, k < 64 → W.cell? ⟨0, k, none⟩ = some (.int .u32 (kT k)) :=
 fun k hk=>(Lib.tabIs_of_head (zs:=kList) (rest:=[]) gTab gTabType under_tab under_u32 cells_u32 cells_tab h).cell gTab k hk
noncomputable def laidWorld(os:Os):World:=
 { World.holding Tryz.prog os ⟨#[],#[],[]⟩ with heap:=(World.holding Tryz.prog os ⟨#[],#[],[]⟩).heap.modify 0 fun
   | .cells _ t frozen=>.cells (arr 64 (vu32 kT)) t frozen
   | o=>o }
end Sha
end Go.Proofs.YteaocagepfgfnaaGreatDoor
