import Derived.Test.YteaocagepfgfnaaGreatDoorPDkMem
import Derived.Test.YteaocagepfgfnaaGreatDoorPJSha
import Derived.Great.BuildSlice
import Derived.DeepKeys
import Derived.ChangeKeysEq
import Derived.Test.YteaocagepfgfnaaGreatDoorPAl
set_option maxRecDepth 100000
set_option maxHeartbeats 8000000
namespace Go.Proofs.YteaocagepfgfnaaGreatDoor
namespace Dk
open Go.RowKit
def hasB(n:Nat)(a:Int):Bool:=decide (0≤a) && decide (a < n)
theorem hasB_no{n:Nat}{a:Int}(h:a < 0):hasB n a=false:=by unfold hasB; rw[decide_eq_false (by omega)]; rfl
theorem hasB_yes{n:Nat}{a:Int}(h:0≤a):hasB n a=decide (a < n):=by unfold hasB; rw[decide_eq_true h]; rfl
theorem hasB_nat{n:Nat}{a:Int}(h:hasB n a=true):0≤a∧a < n:=by simpa[hasB] using h
def inAll(n:Nat)(C:Nat→Wr):Nat→Bool
 | 0=>true
 | j+1=>inAll n C j && hasB n (C j).place
theorem has_any(sa ca:Option Addr)(n sc m cc:Nat)(f a:Int)(d:Bool)(w:World)(_hn:n≤140737488355328) :
  Calls Tryz.prog 121 #[.agg #[.slice sa n sc,.slice ca m cc,.int .i64 f,.bool d],.int .i64 a] w fun e w'=>e=.returned (.bool (hasB n a))∧Below w.heap.size w w':=by
 by_cases h0:0≤a
 ·rw[hasB_yes h0]
  go_enter Tryz.func121,Tryz.ntmps121
  go_wp2_with fail
  go_ret
  exact⟨rfl,(Below.refl _ _).alloc (Nat.le_refl _) _⟩
 ·rw[hasB_no (by omega)]
  go_enter Tryz.func121,Tryz.ntmps121
  go_wp2_with fail
  go_ret
  exact⟨rfl,(Below.refl _ _).alloc (Nat.le_refl _) _⟩
section
variable {P:Program}{ops:Array Oper}{C:World→Prop}{a:Act}{o:Oper}{rest:List Oper}{Q:Act→Prop}
theorem q_val(v:Value)(hw:Region.wanted o (yielded ops a.tmps)=true)(ho:∀w,C w→(execOp a.eval o).run P w=.ok (.value v) w)(h:wpQuiet P ops C Q rest (a.put o.dst v)):wpQuiet P ops C Q (o :: rest) a:=
 BigFrame.wpQuiet_want hw fun _ hK=>⟨v,fun w hw=>by unfold Oper.quietAt; rw[ho w hw]; exact⟨rfl,rfl⟩,hK _ h⟩
theorem q_call(f:FuncId)(args:Array Value)(v:Value)(hw:Region.wanted o (yielded ops a.tmps)=true)(ho:∀w,(execOp a.eval o).run P w=.ok (.enter f args) w)(hc:∀w,C w→Calls P f args w fun e w''=>e=.returned v∧C w'')
  (h:wpQuiet P ops C Q rest (a.put o.dst v)):wpQuiet P ops C Q (o :: rest) a:=
 BigFrame.wpQuiet_want hw fun _ hK=>⟨v,fun w hw=>by unfold Oper.quietAt; rw[ho w]; exact⟨rfl,hc w hw⟩,hK _ h⟩
theorem q_move(x:Operand)(hm:o.op=.move x)(hw:Region.wanted o (yielded ops a.tmps)=true)(h:wpQuiet P ops C Q rest (a.put o.dst (a.eval x))):wpQuiet P ops C Q (o :: rest) a:=
 BigFrame.wpQuiet_want hw fun _ hK=>BigFrame.quiet_move x hm (hK _ h)
end
theorem inAll_false{n:Nat}{C:Nat→Wr}{m j:Nat}(hj:j < m)(h:hasB n (C j).place=false):inAll n C m=false:=by
 induction m with
 | zero=>omega
 | succ m ih=>
  unfold inAll
  by_cases e:j=m
  ·subst e; rw[h,Bool.and_false]
  ·rw[ih (by omega),Bool.false_and]
theorem inAll_at{n:Nat}{C:Nat→Wr}{m j:Nat}(hj:j < m)(h:inAll n C m=true):hasB n (C j).place=true:=by
 cases e:hasB n (C j).place with
 | true=>rfl
 | false=>rw[inAll_false hj e] at h; cases h
def formedB(n:Nat)(m:Nat)(C:Nat→Wr):Bool:=decide (1≤n) && decide (n≤4096) && inAll n C m
theorem wrV_place(x:Wr):(wrV x)[0]?=some (.int .i64 x.place):=rfl
theorem Formed_any(sa ca:Option Addr)(n sc m cc g:Nat)(C:Nat→Wr)(f:Int)(d:Bool)(w:World)(hn:n≤140737488355328)(hm:m≤140737488355328)(hc:Lay w w.heap.size g ca m cc 129 (fun i=>wrV (C i))) :
  Calls Tryz.prog 115 #[.agg #[.slice sa n sc,.slice ca m cc,.int .i64 f,.bool d]] w fun e w'=>e=.returned (.bool (formedB n m C))∧Below w.heap.size w w':=by
 by_cases h1:n < 1∨4096 < n
 ·have e:formedB n m C=false:=by
   unfold formedB
   rcases h1 with h | h
   ·rw[decide_eq_false (by omega)]; rfl
   ·rw[decide_eq_true (by omega),decide_eq_false (by omega)]; rfl
  rw[e]
  rcases h1 with h | h
  ·go_enter Tryz.func115,Tryz.ntmps115
   go_wp2_with fail
   go_ret
   exact⟨rfl,(Below.refl _ _).alloc (Nat.le_refl _) _⟩
  ·have h':¬ (n:Int) < 1:=by omega
   have h2:(4096:Int) < n:=by omega
   go_enter Tryz.func115,Tryz.ntmps115
   go_wp2_with fail
   go_ret
   exact⟨rfl,(Below.refl _ _).alloc (Nat.le_refl _) _⟩
 ·have e:formedB n m C=inAll n C m:=by
   unfold formedB
   rw[decide_eq_true (by omega),decide_eq_true (by omega)]; rfl
  rw[e]
  have h2:¬ (n:Int) < 1:=by omega
  have h3:¬ (4096:Int) < n:=by omega
  clear h1
  have HC:=Lib.hid hc
  obtain⟨z,hz⟩:∃z,z=inAll n C m:=⟨_,rfl⟩
  rw[←hz]
  have HZ:=Lib.hid hz
  clear hz hc
  go_enter Tryz.func115,Tryz.ntmps115
  go_wp2_with fail
  generalize hW:w.alloc (.cells #[.slice sa n sc,.slice ca m cc,.int .i64 f,.bool d] 34)=W
  have hb:Below w.heap.size w W:=by rw[←hW]; exact(Below.refl _ _).alloc (Nat.le_refl _) _
  have c0:W.cell? ⟨w.heap.size,0,none⟩=some (.slice sa n sc):=by rw[←hW]; exact World.cell?_alloc_new _ _ _ 0
  have c1:W.cell? ⟨w.heap.size,1,none⟩=some (.slice ca m cc):=by rw[←hW]; exact World.cell?_alloc_new _ _ _ 1
  have c2:W.cell? ⟨w.heap.size,2,none⟩=some (.int .i64 f):=by rw[←hW]; exact World.cell?_alloc_new _ _ _ 2
  have c3:W.cell? ⟨w.heap.size,3,none⟩=some (.bool d):=by rw[←hW]; exact World.cell?_alloc_new _ _ _ 3
  have hs:W.heap.size=w.heap.size+1:=by rw[←hW]; simp
  clear hW
  have hcW:Hid (Lay W w.heap.size g ca m cc 129 (fun i=>wrV (C i))):=Lib.hid (HC.out.below hb)
  go_loopw [17] (fun i wr=>∃j:Nat,j≤m∧i=.int .i64 j∧Hid (inAll n C j=true)∧Below W.heap.size W wr) (fun i _=>m - (intOf i).toNat)
  case atStart=>exact⟨0,by omega,rfl,Lib.hid rfl,Below.refl _ _⟩
  case round=>
   obtain⟨j,hj,rfl,hz,hB⟩:=hrel
   by_cases hlt:j < m
   ·obtain⟨b,off,rfl,hbl,_,hrow⟩:=hcW.out.rows.resolve_left (by omega)
    have hcell:∀w',Below W.heap.size W w'→w'.cell? ⟨b,off+j * 129,none⟩=some (.int .i64 (C j).place):=fun w' hw'=>
     (hw'.cell (show b < W.heap.size by omega)).trans (hrow j hlt 0 _ (wrV_place _))
    have HCELL:=Lib.hid hcell
    have hj0:(0:Int)≤(j:Int):=by omega
    have hjm:(j:Int) < (m:Int):=by omega
    clear hcell hrow
    go_wp2_with fail
    refine wp_region_quiet (C:=fun w'=>Below W.heap.size W w') (by kernel_rfl) (by kernel_rfl) (hB.trans ⟨rfl,rfl,rfl,Nat.le_refl _,fun _ _=>rfl⟩) ?_
    refine q_val (.agg #[.slice sa n sc,.slice (some ⟨b,off,none⟩) m cc,.int .i64 f,.bool d]) rfl (fun w' hw'=>by
     have k0:=(hw'.cell (p:=⟨w.heap.size,0,none⟩) (show w.heap.size < W.heap.size by omega)).trans c0
     have k1:=(hw'.cell (p:=⟨w.heap.size,1,none⟩) (show w.heap.size < W.heap.size by omega)).trans c1
     have k2:=(hw'.cell (p:=⟨w.heap.size,2,none⟩) (show w.heap.size < W.heap.size by omega)).trans c2
     have k3:=(hw'.cell (p:=⟨w.heap.size,3,none⟩) (show w.heap.size < W.heap.size by omega)).trans c3
     go_simp) ?_
    simp only[Act.put,aA]
    refine q_val (.pointer (some ⟨w.heap.size,1,none⟩)) rfl (fun w' hw'=>by go_simp) ?_
    simp only[Act.put,aA]
    refine q_val (.slice (some ⟨b,off,none⟩) m cc) rfl (fun w' hw'=>by have k1:=(hw'.cell (p:=⟨w.heap.size,1,none⟩) (show w.heap.size < W.heap.size by omega)).trans c1; go_simp) ?_
    simp only[Act.put,aA]
    refine q_move _ rfl rfl ?_
    simp only[Act.put,aA]
    refine q_val (.pointer (some ⟨b,off+j * 129,none⟩)) rfl (fun w' hw'=>by go_simp) ?_
    simp only[Act.put,aA]
    refine q_val (.pointer (some ⟨b,off+j * 129,none⟩)) rfl (fun w' hw'=>by go_simp) ?_
    simp only[Act.put,aA]
    refine q_val (.int .i64 (C j).place) rfl (fun w' hw'=>by have k1:=HCELL.out w' hw'; go_simp) ?_
    simp only[Act.put,aA]
    refine q_call 121 _ (.bool (hasB n (C j).place)) rfl (fun w'=>by go_simp) (fun w' hw'=>(has_any sa (some ⟨b,off,none⟩) n sc m cc f (C j).place d w' hn).mono fun e w'' ⟨he,hb⟩=>⟨he,hw'.trans (hb.mono hw'.size)⟩) ?_
    simp only[Act.put,aA]
    refine q_val (.bool (!hasB n (C j).place)) rfl (fun w' hw'=>by go_simp) ?_
    simp only[Act.put,aA]
    refine wpQuiet_nil ?_
    intro w' hw'
    cases hq:hasB n (C j).place with
    | true=>
     have hz':Hid (inAll n C (j+1)=true):=Lib.hid (by unfold inAll; rw[hz.out,hq]; rfl)
     clear hq
     go_wp2_with fail
     go_roundw
     case rel=>exact⟨j+1,by omega,by go_num,hz',hw'⟩
     case measure=>simp[intOf]; omega
    | false=>
     have hz':=Lib.hid (inAll_false hlt hq)
     clear hq
     go_wp2_with fail
     go_ret
     exact⟨congrArg (fun b=>Ending.returned (.bool b)) (HZ.out.trans hz'.out).symm,hb.trans (hw'.mono (by omega))⟩
   ·obtain rfl:j=m:=by omega
    go_wp2_with fail
    go_ret
    exact⟨congrArg (fun b=>Ending.returned (.bool b)) (HZ.out.trans hz.out).symm,hb.trans (hB.mono (by omega))⟩
def Bx(w:World)(g:Pl)(v0 v1 v2 v3:Value):Prop:=g.At w [v0,v1,v2,v3]
section
variable {w w':World}{g:Pl}{v0 v1 v2 v3:Value}
theorem Bx.c0(h:Bx w g v0 v1 v2 v3):w.cell? ⟨g.b,g.o,none⟩=some v0:=Pl.At.cell (j:=0) h (by simp)
theorem Bx.c1(h:Bx w g v0 v1 v2 v3):w.cell? ⟨g.b,g.o+1,none⟩=some v1:=Pl.At.cell h (by simp)
theorem Bx.c2(h:Bx w g v0 v1 v2 v3):w.cell? ⟨g.b,g.o+2,none⟩=some v2:=Pl.At.cell h (by simp)
theorem Bx.c3(h:Bx w g v0 v1 v2 v3):w.cell? ⟨g.b,g.o+3,none⟩=some v3:=Pl.At.cell h (by simp)
theorem Bx.fr(h:Bx w g v0 v1 v2 v3)(j:Nat):w.frozen? ⟨g.b,j,none⟩=false:=Pl.At.fr h j
theorem Bx.lt(h:Bx w g v0 v1 v2 v3):g.b < w.heap.size:=Pl.At.lt h
theorem Bx.block(h:Bx w g v0 v1 v2 v3)(hb:w'.heap[g.b]?=w.heap[g.b]?):Bx w' g v0 v1 v2 v3:=Pl.At.block h hb
theorem Bx.below(h:Bx w g v0 v1 v2 v3)(hb:Below w.heap.size w w'):Bx w' g v0 v1 v2 v3:=Pl.At.below h hb
theorem Bx.s0(h:Bx w g v0 v1 v2 v3)(u:Value):Bx (w.setCell ⟨g.b,g.o,none⟩ u) g u v1 v2 v3:=Pl.At.set (j:=0) h (by simp) u
theorem Bx.s1(h:Bx w g v0 v1 v2 v3)(u:Value):Bx (w.setCell ⟨g.b,g.o+1,none⟩ u) g v0 u v2 v3:=Pl.At.set h (by simp) u
theorem Bx.s2(h:Bx w g v0 v1 v2 v3)(u:Value):Bx (w.setCell ⟨g.b,g.o+2,none⟩ u) g v0 v1 u v3:=Pl.At.set h (by simp) u
theorem Bx.s3(h:Bx w g v0 v1 v2 v3)(u:Value):Bx (w.setCell ⟨g.b,g.o+3,none⟩ u) g v0 v1 v2 u:=Pl.At.set h (by simp) u
end
section
variable {w w':World}{g:Nat}{v0 v1 v2 v3:Value}
end
theorem formed_any(g:Pl)(sa ca:Option Addr)(n sc m cc:Nat)(C:Nat→Wr)(f:Int)(d:Bool)(w:World)(hx:Bx w g (.slice sa n sc) (.slice ca m cc) (.int .i64 f) (.bool d))(hn:n≤140737488355328)(hm:m≤140737488355328)(hc:Lay w w.heap.size g ca m cc 129 (fun i=>wrV (C i))) :
  Calls Tryz.prog 120 #[.pointer (some ⟨g.b,g.o,none⟩)] w fun e w'=>e=.returned (.bool (formedB n m C))∧Below w.heap.size w w':=by
 have h0:=hx.c0
 have h1:=hx.c1
 have h2:=hx.c2
 have h3:=hx.c3
 have HC:=Lib.hid hc
 clear hc hx
 generalize hz:formedB n m C=z
 have HZ:=Lib.hid hz
 clear hz
 go_enter Tryz.func120,Tryz.ntmps120
 go_wp2_with fail
 refine(Formed_any sa ca n sc m cc g C f d w hn hm HC.out).mono ?_
 rw[HZ.out]
 rintro _ w1 ⟨rfl,hb⟩
 dsimp only
 go_wp2_with fail
 go_ret
 exact⟨rfl,hb⟩
end Dk
namespace Eqb
open Go.RowKit Go.Sort Dk
theorem eqItems_any{P:Program}{e:TypeId}{k:IntKind}(he:P.plainKey e=true)(hu:P.underlying e=some (.int k))(d:Nat)(xs ys:Array Value)(F G:Nat→Int)(w:World) :
  ∀(is:List Nat),(∀i ∈ is,xs[i]?=some (.int k (F i))∧ys[i]?=some (.int k (G i)))→(Op.eqItems (d+1) e 1 xs ys is).run P w=.ok (is.all fun i=>F i == G i) w
 | [],_=>by simp[Op.eqItems]
 | i :: is,h=>by
  obtain⟨h1,h2⟩:=h i (by simp)
  have ih:=eqItems_any he hu d xs ys F G w is fun j hj=>h j (by simp[hj])
  simp only[Op.eqItems,Sem.run_bind,Nat.mul_one,run_part_plain w he h1,run_part_plain w he h2,Result.andThen_ok,run_equalIn_int w d e k k (F i) (G i) hu,List.all_cons]
  cases hb:F i == G i with
  | false=>simp
  | true=>simpa using ih
def eqB(n:Nat)(F G:Nat→Int):Bool:=(List.range n).all fun i=>F i == G i
theorem eqB_iff{n:Nat}{F G:Nat→Int}:eqB n F G=true↔∀i,i < n→F i=G i:=by simp[eqB]
theorem eqB_same(n:Nat)(F:Nat→Int):eqB n F F=true:=eqB_iff.2 fun _ _=>rfl
theorem eqD_sum(d:Nat)(f g:Nat→Int)(w:World):(Op.equalIn (d+2) 22 (.agg (Sha.arr 32 (Sha.vu8 f))) (.agg (Sha.arr 32 (Sha.vu8 g)))).run Tryz.prog w=.ok (eqB 32 f g) w:=by
 obtain⟨i,hi⟩:∃i,Tryz.prog.info? 5=some i:=⟨_,rfl⟩
 rw[run_equalIn_array w (d+1) (n:=32) (e:=5) _ _ (by kernel_rfl) hi,show Tryz.prog.cellsOf 5=1 by kernel_rfl]
 exact eqItems_any (k:=.u8) (by kernel_rfl) (by kernel_rfl) d _ _ f g w _ fun i hi=>by
  have hi':i < 32:=by simpa using hi
  rw[Sha.arr_get _ hi',Sha.arr_get _ hi']
  exact⟨rfl,rfl⟩
theorem eq_sum(f g:Nat→Int)(w:World):(Op.equalIn 10000 22 (.agg (Sha.arr 32 (Sha.vu8 f))) (.agg (Sha.arr 32 (Sha.vu8 g)))).run Tryz.prog w=.ok (eqB 32 f g) w:=eqD_sum 9998 f g w
theorem q_eqlV{P:Program}{ops:Array Oper}{C:World→Prop}{a:Act}{o:Oper}{rest:List Oper}{Q:Act→Prop}(t t':TypeId)(x y:Operand)(ho:o.op=.binOp .eql t x y t')(hw:Region.wanted o (yielded ops a.tmps)=true)(X Y:Array Value)(hx:a.eval x=.agg X)(hy:a.eval y=.agg Y)(b:Bool)
  (hm:P.eqGuardType P.depth t=false) (heq:∀w,C w→(Op.equalIn 10000 t (.agg X) (.agg Y)).run P w=.ok b w) (h:wpQuiet P ops C Q rest (a.put o.dst (.bool b))):wpQuiet P ops C Q (o :: rest) a:=
 q_val (.bool b) hw (fun w hw=>by
  unfold execOp
  simp only[ho,hx,hy,Sem.run_bind,run_eqGuard_agg w _ _ _ _ _ _ hm,run_eql_struct,heq w hw,Result.andThen_ok]
  rfl) h
theorem q_loadB{P:Program}{ops:Array Oper}{C:World→Prop}{a:Act}{o:Oper}{rest:List Oper}{Q:Act→Prop}(ty:TypeId)(x:Operand)(ho:o.op=.load ty x)(hw:Region.wanted o (yielded ops a.tmps)=true)(b off:Nat)(hx:a.eval x=.pointer (some ⟨b,off,none⟩))(cs:List Value)(d:TypeDesc)
  (hc:∀w,C w→w.rangeAt b off cs) (hu:P.underlying ty=some d) (hd:d.isRow=true) (hi:(P.info? ty).map (·.size)=some cs.length) (h:wpQuiet P ops C Q rest (a.put o.dst (.agg cs.toArray))):wpQuiet P ops C Q (o :: rest) a:=
 q_val (.agg cs.toArray) hw (fun w hw=>by
  unfold execOp
  simp only[ho,hx,Instr.loadAt,Instr.sureAddr,Sem.run_bind,Sem.run_pure,Result.andThen_ok,run_loadVar_mid w b off ty cs d (hc w hw) hu hd hi]) h
theorem wpList_val{P:Program}{ops:Array Oper}{rest:List Oper}{o:Oper}{a:Act}{w:World}{Q:Exit→Act→World→Prop}(v:Value)(hw:Region.wanted o (yielded ops a.tmps)=true)(ho:(execOp a.eval o).run P w=.ok (.value v) w)
  (h:wpList P ops Q rest (a.put o.dst v) w):wpList P ops Q (o :: rest) a w:=
 BigFrame.wpList_want hw fun _ hK=>by
  unfold Oper.wp
  rw[ho]
  exact hK _ _ h
theorem wG{P:Program}{ops:Array Oper}{rest:List Oper}{o:Oper}{a:Act}{w:World}{Q:Exit→Act→World→Prop}(hw:Region.wanted o (yielded ops a.tmps)=true)(ty:TypeId)(x:Operand)(ho:o.op=.load ty x)(b off:Nat)(hx:a.eval x=.pointer (some ⟨b,off,none⟩))(cs:List Value)(d:TypeDesc)
  (hc:w.rangeAt b off cs) (hu:P.underlying ty=some d) (hd:d.isRow=true) (hi:(P.info? ty).map (·.size)=some cs.length) (h:wpList P ops Q rest (a.put o.dst (.agg cs.toArray)) w):wpList P ops Q (o :: rest) a w:=
 BigFrame.wpList_want hw fun _ hK=>wp_load_mid ty x ho b off hx cs d hc hu hd hi (hK _ _ h)
theorem wpList_buildG{P:Program}{ops:Array Oper}{rest:List Oper}{o:Oper}{a:Act}{w:World}{Q:Exit→Act→World→Prop}(hw:Region.wanted o (yielded ops a.tmps)=true)(t:TypeId)(parts:Array (Nat × Operand))(ho:o.op=.build t parts)
  (cells:Array Value) (hf:P.built t (parts.map fun(i,x)=>(i,a.eval x)).toList=some cells) (h:wpList P ops Q rest (a.put o.dst (.agg cells)) w):wpList P ops Q (o :: rest) a w:=
 wpList_val (.agg cells) hw (by
  unfold execOp
  simp only[ho,Sem.run_bind,run_build w t _ _ hf,Result.andThen_ok]
  rfl) h
theorem wpList_eqlV{P:Program}{ops:Array Oper}{rest:List Oper}{o:Oper}{a:Act}{w:World}{Q:Exit→Act→World→Prop}(t t':TypeId)(x y:Operand)(ho:o.op=.binOp .eql t x y t')(hw:Region.wanted o (yielded ops a.tmps)=true)(X Y:Array Value)(hx:a.eval x=.agg X)(hy:a.eval y=.agg Y)(b:Bool)
  (hm:P.eqGuardType P.depth t=false) (heq:(Op.equalIn 10000 t (.agg X) (.agg Y)).run P w=.ok b w) (h:wpList P ops Q rest (a.put o.dst (.bool b)) w):wpList P ops Q (o :: rest) a w:=
 wpList_val (.bool b) hw (by
  unfold execOp
  simp only[ho,hx,hy,Sem.run_bind,run_eqGuard_agg w _ _ _ _ _ _ hm,run_eql_struct,heq,Result.andThen_ok]
  rfl) h
theorem zvB(w:World):(zeroValue 47).run Tryz.prog w=.ok (.agg (bl fun _=>0).toArray) w:=(zero_of_info (P:=Tryz.prog) (t:=47) (v:=.agg (bl fun _=>0).toArray) (n:=128) (by kernel_rfl)).1 w
theorem zcB:Tryz.zeroCells47=(bl fun _=>0).toArray:=by kernel_rfl
theorem undB:Tryz.prog.underlying 47=some (.array 128 5):=by kernel_rfl
theorem sizeB(f:Nat→Int):(Tryz.prog.info? 47).map (·.size)=some (bl f).toArray.size:=by rw[List.size_toArray]; exact sB f
theorem allB(f:Nat→Int):(bl f).toArray.all (·.oneCell')=true:=all_oneCell_toArray (bl_one f)
theorem builtB:Tryz.prog.built 47 []=some (bl fun _=>0).toArray:=by kernel_rfl
end Eqb
end Go.Proofs.YteaocagepfgfnaaGreatDoor
