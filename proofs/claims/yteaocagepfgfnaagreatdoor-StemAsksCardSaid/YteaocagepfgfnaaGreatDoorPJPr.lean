import Derived.Test.YteaocagepfgfnaaGreatDoorPJPq
import Derived.Test.YteaocagepfgfnaaGreatDoorPAl
set_option maxRecDepth 100000
set_option maxHeartbeats 8000000
namespace Go.Proofs.YteaocagepfgfnaaGreatDoor
namespace Pt
open Go.RowKit Dk Eqb Byt
def nP(n:Nat)(P:Nat→Pn)(i:Nat):Pn:=if i < n then P i else hole
def NB(n:Nat)(P:Nat→Pn):Nat→Nat→Int
 | 0=>fun _=>0
 | j+1=>ppF 128 (40 * (j:Int)) (nP n P j) (NB n P j)
def ndOk(n:Nat)(P:Nat→Pn):Prop:=n≤3∧∀i,i < 3→rightB (nP n P i)=true
instance (n:Nat) (P:Nat→Pn):Decidable (ndOk n P):=by unfold ndOk; infer_instance
def ndV(n:Nat)(P:Nat→Pn):Nat→Int:=if ndOk n P then NB n P 3 else fun _=>0
def ndE(n:Nat)(P:Nat→Pn):Int:=if ndOk n P then 0 else 1
theorem nd_no{n:Nat}{P:Nat→Pn}(h:¬ ndOk n P):ndV n P=(fun _=>0)∧ndE n P=1:=by
 unfold ndV ndE
 rw[if_neg h,if_neg h]
 exact⟨rfl,rfl⟩
theorem nd_yes{n:Nat}{P:Nat→Pn}(h:ndOk n P):ndV n P=NB n P 3∧ndE n P=0:=by
 unfold ndV ndE
 rw[if_pos h,if_pos h]
 exact⟨rfl,rfl⟩
theorem pp_at{j:Nat}{p:Pn}(hj:j < 3)(h:rightB p=true):ppE 128 (40 * (j:Int)) p=0:=by
 have hw:withinB 128 (40 * (j:Int))=true:=within_iff.2 (by omega)
 unfold ppE ppG
 rw[h,hw]
 rfl
theorem pp_bad{j:Nat}{p:Pn}(f:Nat→Int)(h:rightB p=false):ppF 128 (40 * (j:Int)) p f=f∧ppE 128 (40 * (j:Int)) p=1:=pp_no (show ppG 128 (40 * (j:Int)) p=false by unfold ppG; rw[h]; rfl) f
theorem blk_of'{w:World}{k:Nat}{o:Obj}(h:w.heap[k]?=some o):k < w.heap.size:=(Array.getElem?_eq_some_iff.1 h).1
structure NdW(bb pb:Nat)(p:Pn)(F F':Nat→Int)(W0:World)(c:Bool)(w':World):Prop where
 o0:c=false→Wd.Own w' 0 (some ⟨bb,0,none⟩) 128 128 F
 o1:c=true→Wd.Own w' 0 (some ⟨bb,0,none⟩) 128 128 F'
 only:Wd.Only W0 w' (some ⟨bb,0,none⟩)
 ptr:w'.heap[pb]?=some (.cells (pV p).toArray 24 (0,0))
theorem NdW.step{bb pb:Nat}{p:Pn}{F F':Nat→Int}{W0 w' w'':World}(hne:pb≠bb)(h:NdW bb pb p F F' W0 false w')(hG:Wd.Only w' w'' (some ⟨bb,0,none⟩))(hO:Wd.Own w'' 0 (some ⟨bb,0,none⟩) 128 128 F'):NdW bb pb p F F' W0 true w'':=
 ⟨fun e=>(by cases e),fun _=>hO,Only.trans' h.only hG,(hG.block pb (blk_of' h.ptr) (by simpa using hne)).trans h.ptr⟩
theorem own_row{w:World}{B g:Nat}{f:Nat→Int}(h:Wd.Own w B (some ⟨g,0,none⟩) 128 128 f):Row w g 0 128 f:=by
 rcases h.row with ⟨e,_⟩ | ⟨g',e,_,hr⟩
 ·cases e
 ·injection e with e
  injection e with e
  subst e
  exact hr
theorem row_own{w:World}{g:Nat}{f:Nat→Int}(h:Row w g 0 128 f):Wd.Own w 0 (some ⟨g,0,none⟩) 128 128 f:=⟨Nat.le_refl _,(fun e=>by cases e),.inr ⟨g,rfl,Nat.zero_le _,h⟩⟩
theorem results_bl{tmps:Array Value}{w:World}{B:Nat}{D:Nat→Int}{e:Int}{fn:Func}{s r:Nat}(hf:fn.results=#[.cell s 47,.tmp r])(h4:tmps.getD s undef=.pointer (some ⟨B,0,none⟩))(h5:tmps.getD r undef=.int .i64 e)
  (kV:w.heap[B]?=some (.cells (bl D).toArray 47 (0,0))):(results fn tmps).run Tryz.prog w=.ok (.tuple #[.agg (bl D).toArray,.int .i64 e]) w:=by
 have h4':tmps[s]?.getD undef=.pointer (some ⟨B,0,none⟩):=by simpa using h4
 have h5':tmps[r]?.getD undef=.int .i64 e:=by simpa using h5
 have hv:=run_loadVar_row (P:=Tryz.prog) w B 47 47 (bl D).toArray (0,0) _ kV undB rfl (sizeB D)
 simp[results,hf,h4',h5',asAddr,hv]
end Pt
namespace Pt
open Go.RowKit Dk Eqb Byt
theorem setCells_append(b:Nat):∀(xs ys:List Value) (o:Nat) (w:World),w.setCells b o (xs ++ ys)=(w.setCells b o xs).setCells b (o+xs.length) ys
 | [],ys,o,w=>rfl
 | x :: xs,ys,o,w=>by
  have:=setCells_append b xs ys (o+1) (w.setCell ⟨b,o,none⟩ x)
  show(w.setCell ⟨b,o,none⟩ x).setCells b (o+1) (xs ++ ys)=_
  rw[this]
  show _=((w.setCell ⟨b,o,none⟩ x).setCells b (o+1) xs).setCells b (o+(xs.length+1)) ys
  rw[show o+1+xs.length=o+(xs.length+1) by omega]
def cp(P:Nat→Pn)(n i:Nat):Pn:=if i < n then P i else pz
theorem cp_zero(P:Nat→Pn):cp P 0=zP:=by funext i; unfold cp zP; rw[if_neg (by omega)]
theorem cp_next(P:Nat→Pn)(n:Nat):upd (cp P n) n (P n)=cp P (n+1):=by
 funext i
 unfold upd cp
 by_cases e:i=n
 ·subst e; rw[if_pos rfl,if_pos (by omega)]
 ·rw[if_neg e]
  by_cases h:i < n
  ·rw[if_pos h,if_pos (by omega)]
  ·rw[if_neg h,if_neg (by omega)]
theorem R3.copied{w:World}{b:Nat}{P:Nat→Pn}(h:R3 w b zP):∀n,n≤3→R3 (w.setCells b 0 (flat (fun i=>pV (P i)) n)) b (cp P n)
 | 0,_=>by rw[cp_zero]; exact h
 | n+1,hn=>by
  have ih:=R3.copied (P:=P) h n (by omega)
  rw[flat_succ,setCells_append,flat_length (k:=34) (fun i _=>pL _),Nat.zero_add,Nat.mul_comm,←cp_next]
  exact ih.store (by omega) (P n)
theorem ptr_slice:Tryz.prog.underlying 52=some (.slice 24):=by kernel_rfl
theorem ptr_info:∃i,Tryz.prog.info? 24=some i∧i.size=34:=⟨_,rfl,by kernel_rfl⟩
theorem run_copy_pts{w:World}{B g0 g n cap:Nat}{pa:Option Addr}{P:Nat→Pn}(ty:TypeId)(hl:Lay w B g0 pa n cap 34 (fun i=>pV (P i)))(hn:n≤3)(hg:R3 w g zP) :
  (Builtin.copy_ #[52,52] ty #[.slice (some ⟨g,0,none⟩) 3 3,.slice pa n cap]).run Tryz.prog w=.ok (goInt n) (w.setCells g 0 (flat (fun i=>pV (P i)) n)):=by
 obtain⟨i,hi,hz⟩:=ptr_info
 cases pa with
 | none=>
  have hc:=hl.nil rfl
  have h0:n=0:=by have:=hl.room; omega
  subst h0 hc
  exact run_copy_nil Tryz.prog w _ _ ty 24 ⟨g,0,none⟩ 3 3 ptr_slice (by rw[hi]; rfl)
 | some ad=>
  have hlen:(flat (fun i=>pV (P i)) n).length=n * 34:=flat_length fun i _=>pL _
  have h1:∀j v,(flat (fun i=>pV (P i)) n)[j]?=some v→w.cell? (ad.add j)=some v:=fun j v hv=>by
   obtain⟨i,r,hi,hr,rfl,hv'⟩:=flat_inv (T:=fun i=>pV (P i)) (k:=34) (fun i _=>pL _) hv
   obtain⟨b,off,e,_,_,hrow⟩:=hl.rows.resolve_left (by omega)
   injection e with e
   subst e
   rw[Addr.add_mid,←Nat.add_assoc]
   exact hrow i hi r v hv'
  have hload:=run_loadCells_list (P:=Tryz.prog) w ad _ h1
  have hst:=run_storeCells_cells (P:=Tryz.prog) g 0 (flat (fun i=>pV (P i)) n) 0 w (fun j hj=>by rw[hlen] at hj; have:=(hg.th j (by omega)).1; simpa using this) (fun j hj=>by rw[hlen] at hj; have:=(hg.th j (by omega)).2; simpa using this) (flat_one fun i _=>pV_one _)
  rw[hlen] at hload
  have hm:Nat.min n 3=n:=Nat.min_eq_left hn
  simp[Builtin.copy_,run_underlying ptr_slice,Builtin.lenOf,Builtin.firstCells,sizeOf,typeInfo,hi,hz,hm,hload,hst]
theorem wpList_copy_pts{w:World}{ops:Array Oper}{rest:List Oper}{o:Oper}{a:Act}{Q:Exit→Act→World→Prop}(hgd:o.guard=none)(d s:Operand)(ho:o.op=.call { callee:=.builtin .copy,args:=#[d,s],argTypes:=#[52,52] })
  {B g0 g n cap:Nat} {pa:Option Addr} {P:Nat→Pn} (hd:a.eval d=.slice (some ⟨g,0,none⟩) 3 3) (hs:a.eval s=.slice pa n cap) (hl:Lay w B g0 pa n cap 34 (fun i=>pV (P i))) (hn:n≤3) (hg:R3 w g zP)
  (h:wpList Tryz.prog ops Q rest (a.put o.dst (goInt n)) (w.setCells g 0 (flat (fun i=>pV (P i)) n))):wpList Tryz.prog ops Q (o :: rest) a w:=by
 refine wpList_plain hgd fun K hK=>?_
 have hrun:=run_copy_pts o.type hl hn hg
 unfold Oper.wp
 simp[execOp,ho,resolve,invoke,builtin,hd,hs,hrun,Result.andThen]
 exact hK _ _ h
theorem run_index3(Q:Nat→Pn)(j:Nat)(hj:j < 3)(W:World):(Instr.index 83 (.agg (f3 Q).toArray) (.int .i64 (j:Int))).run Tryz.prog W=.ok (.agg (pV (Q j)).toArray) W:=by
 match j,hj with
 | 0,_=>
  show(Instr.index 83 (.agg (f3 Q).toArray) (.int .i64 0)).run Tryz.prog W=.ok (.agg (pV (Q 0)).toArray) W
  kernel_rfl
 | 1,_=>
  show(Instr.index 83 (.agg (f3 Q).toArray) (.int .i64 1)).run Tryz.prog W=.ok (.agg (pV (Q 1)).toArray) W
  kernel_rfl
 | 2,_=>
  show(Instr.index 83 (.agg (f3 Q).toArray) (.int .i64 2)).run Tryz.prog W=.ok (.agg (pV (Q 2)).toArray) W
  kernel_rfl
 | n+3,h=>omega
end Pt
namespace Pt
open Go.RowKit Dk Eqb Byt
def mj(n:Nat)(P:Nat→Pn)(j i:Nat):Pn:=if i < j then nP n P i else pz
theorem mj_start(n:Nat)(P:Nat→Pn):cp P n=mj n P n:=by
 funext i
 unfold cp mj nP
 by_cases h:i < n
 ·rw[if_pos h,if_pos h,if_pos h]
 ·rw[if_neg h,if_neg h]
theorem mj_next(n:Nat)(P:Nat→Pn){j:Nat}(h:n≤j):upd (mj n P j) j hole=mj n P (j+1):=by
 funext i
 unfold upd mj
 by_cases e:i=j
 ·subst e; rw[if_pos rfl,if_pos (by omega)]; unfold nP; rw[if_neg (by omega)]
 ·rw[if_neg e]
  by_cases h':i < j
  ·rw[if_pos h',if_pos (by omega)]
  ·rw[if_neg h',if_neg (by omega)]
theorem mj_all(n:Nat)(P:Nat→Pn):f3 (mj n P 3)=f3 (nP n P):=f3_congr fun i hi=>by unfold mj; rw[if_pos hi]
def NcInv(x0 x1 x2 x3 x4 x5 x10 x11 x12 x13 x14 x15 x16 x17 x18 x19 x20 x21 x22 x23 x24 x25 x26 x27 x28 x34 x35 x36 x37 x38 x39:Value)(bb pb j:Nat)(p:Pn)(E:Int)(F F':Nat→Int)(W0:World)(L:Nat→Bool)(a':Act)(w':World):Prop:=
 ∃u0 u1 u2 u3 u4 u5,a'={ tmps:=#[x0,x1,x2,x3,x4,x5,.pointer (some ⟨bb,0,none⟩),.int .i64 (j:Int),.pointer (some ⟨pb,0,none⟩),u5,x10,x11,x12,x13,x14,x15,x16,x17,x18,x19,x20,x21,x22,x23,x24,x25,x26,x27,x28,u0,u1,u2,u3,u4,x34,x35,x36,x37,x38,x39],defers:=[] }∧(L 0=true→u0=.slice (some ⟨bb,0,none⟩) 128 128)∧(L 1=true→u1=.int .i64 (j:Int))∧(L 2=true→u2=.int .i64 (40 * (j:Int)))∧(L 3=true→u3=.agg (pV p).toArray)∧(L 4=true→u4=.int .i64 E)∧(L 5=true→u5=.int .i64 E)∧NdW bb pb p F F' W0 (L 4) w'
theorem nK{L:Nat→Bool}{i k:Nat}{Q:Prop}(h:L k=true→Q)(h1:(k == i)=false):(k == i || L k)=true→Q:=by
 rw[h1,Bool.false_or]
 exact h
attribute [local go_sem] zvP zvB zv3
attribute [local go_sem] zcB zc3
theorem node_any(n:Nat)(P:Nat→Pn)(pa:Option Addr)(cap g:Nat)(w:World)(hl:Lay w w.heap.size g pa n cap 34 (fun i=>pV (P i)))(hn:n≤140737488355328) :
  Calls Tryz.prog 83 #[.slice pa n cap] w fun e w'=>e=.returned (.tuple #[.agg (bl (ndV n P)).toArray,.int .i64 (ndE n P)])∧Below w.heap.size w w':=by
 have hB0:Below w.heap.size w (w.alloc (.cells (bl fun _=>0).toArray 47)):=(Below.refl _ _).alloc (Nat.le_refl _) _
 have hx0:(w.alloc (.cells (bl fun _=>0).toArray 47)).heap[w.heap.size]?=some (.cells (bl fun _=>0).toArray 47 (0,0)):=heap_alloc_new w _
 have hB1:Below w.heap.size w ((w.alloc (.cells (bl fun _=>0).toArray 47)).alloc (.cells (f3 zP).toArray 83)):=hB0.alloc (by simp) _
 have hx1:((w.alloc (.cells (bl fun _=>0).toArray 47)).alloc (.cells (f3 zP).toArray 83)).heap[w.heap.size]?=some (.cells (bl fun _=>0).toArray 47 (0,0)):=(Below.heap_alloc _ _ _ (by simp)).trans hx0
 have hy1:R3 ((w.alloc (.cells (bl fun _=>0).toArray 47)).alloc (.cells (f3 zP).toArray 83)) (w.heap.size+1) zP:=R3.new (t:=83) (by
  have:=heap_alloc_new (w.alloc (.cells (bl fun _=>0).toArray 47)) (.cells (f3 zP).toArray 83)
  rwa [World.size_alloc] at this)
 have HNO:=Lib.hid (fun(h:¬ ndOk n P)=>nd_no h)
 have HYES:=Lib.hid (fun(h:ndOk n P)=>nd_yes h)
 have hLay:=hl.below hB1
 clear hl
 by_cases hn3:3 < n
 ·have HV:=Lib.hid (HNO.out (fun h=>by have:=h.1; omega))
  clear HNO HYES hLay hB1 hx1 hy1
  go_enter Tryz.func83,Tryz.ntmps83
  go_wp2_with (first
   | (refine @wpList_buildG _ _ _ _ _ _ _ (by kernel_rfl) 47 #[] rfl (bl fun _=>0).toArray (by kernel_rfl) ?_; simp only[Act.put,aA])
   | (refine @wpList_store_row _ _ _ _ _ _ _ rfl 47 (.tmp 2) (.tmp 13) rfl w.heap.size (bl fun _=>0).toArray rfl rfl 47 _ hx0 (sizeB _) rfl (allB _) ?_; simp only[Act.put]))
  have hr9:=setRow_heap _ w.heap.size _ (bl fun _=>0).toArray 47 (0,0) hx0
  refine bodyPost_ret (results_bl rfl rfl rfl hr9) rfl ?_
  exact⟨by rw[HV.out.1,HV.out.2],hB0.trans ⟨rfl,rfl,rfl,by simp,fun k hk=>setRow_other _ _ k _ (by omega)⟩⟩
 ·have hn3':n≤3:=by omega
  have HI:Hid (Below w.heap.size w (((w.alloc (.cells (bl fun _=>0).toArray 47)).alloc (.cells (f3 zP).toArray 83)).setCells (w.heap.size+1) 0 (flat (fun i=>pV (P i)) n))∧(((w.alloc (.cells (bl fun _=>0).toArray 47)).alloc (.cells (f3 zP).toArray 83)).setCells (w.heap.size+1) 0 (flat (fun i=>pV (P i)) n)).heap[w.heap.size]?=some (.cells (bl fun _=>0).toArray 47 (0,0))∧R3 (((w.alloc (.cells (bl fun _=>0).toArray 47)).alloc (.cells (f3 zP).toArray 83)).setCells (w.heap.size+1) 0 (flat (fun i=>pV (P i)) n)) (w.heap.size+1) (mj n P n)):=Lib.hid ⟨below_cells (by omega) _ _ hB1,(other_cells (by omega) _ _ _).trans hx1,by rw[←mj_start]; exact hy1.copied n hn3'⟩
  have hnn:¬ (3:Int) < (n:Int):=by omega
  go_enter Tryz.func83,Tryz.ntmps83
  go_wp2_with (first
   | (refine @wpList_copy_pts _ _ _ _ _ _ rfl (.tmp 14) (.tmp 15) rfl _ _ _ _ _ _ _ rfl rfl hLay hn3' hy1 ?_; generalize ((w.alloc (.cells (bl fun _=>0).toArray 47)).alloc (.cells (f3 zP).toArray 83)).setCells (w.heap.size+1) 0 (flat (fun i=>pV (P i)) n)=W at HI ⊢; simp only[Act.put,aA]))
  clear hB0 hx0 hB1 hx1 hy1 hLay
  go_loopw [5] (fun i wr=>∃j:Nat,n≤j∧j≤3∧i=.int .i64 j∧Hid (Below w.heap.size w wr∧wr.heap[w.heap.size]?=some (.cells (bl fun _=>0).toArray 47 (0,0))∧R3 wr (w.heap.size+1) (mj n P j))) (fun i _=>3 - (intOf i).toNat)
  case atStart=>exact⟨n,by omega,hn3',rfl,HI⟩
  case round=>
   clear HI
   obtain⟨j,hjn,hj,rfl,hR⟩:=hrel
   obtain⟨hB,hx,hy⟩:=hR.out
   by_cases hj2:j < 3
   ·have hj0:(0:Int)≤(j:Int):=by omega
    have HY:=Lib.hid hy
    have hyl:=hy.lt
    have HMJ:=Lib.hid (mj_next n P hjn)
    clear hR hy HNO HYES
    go_wp2_with fail
    refine(hole_any wr).mono ?_
    rintro _ w1 ⟨rfl,hb1⟩
    have hy1:=HY.out.keep (hb1.block (w.heap.size+1) hyl)
    have hx1:=(hb1.block w.heap.size (by omega)).trans hx
    have hB1:=hB.trans (hb1.mono hB.size)
    have HN:Hid (Below w.heap.size w (w1.setCells (w.heap.size+1) (34 * j) (pV hole))∧(w1.setCells (w.heap.size+1) (34 * j) (pV hole)).heap[w.heap.size]?=some (.cells (bl fun _=>0).toArray 47 (0,0))∧R3 (w1.setCells (w.heap.size+1) (34 * j) (pV hole)) (w.heap.size+1) (mj n P (j+1))):=Lib.hid ⟨below_cells (by omega) _ _ hB1,(other_cells (by omega) _ _ _).trans hx1,by rw[←HMJ.out]; exact hy1.store hj2 hole⟩
    have hth:=hy1.at hj2
    clear hx hB hb1 hx1 hB1 HY hy1 HMJ
    dsimp only
    go_wp2_with (first
     | (refine @wpList_store_mid _ _ _ _ _ _ _ (by rfl) 24 (.tmp 23) (.tmp 22) (by rfl) (w.heap.size+1) (j * 34) (pV hole).toArray (by rfl) (by rfl) (by rw[pV_asize,Nat.mul_comm]; exact hth) (sizeP' _) (pV_all _) ?_; rw[Nat.mul_comm j 34]; simp only[Act.put]; generalize w1.setCells (w.heap.size+1) (34 * j) (pV hole)=w5 at HN ⊢))
    clear hth
    go_roundw
    case rel=>exact⟨j+1,by omega,by omega,by go_num,HN⟩
    case measure=>simp[intOf]; omega
   ·obtain rfl:j=3:=by omega
    have hyl:=hy.lt
    obtain⟨W,hW,hB0,hx0,hr0,hrg⟩:∃W,W=wr.alloc (.cells (bl fun _=>0).toArray 47)∧Below w.heap.size w W∧W.heap[w.heap.size]?=some (.cells (bl fun _=>0).toArray 47 (0,0))∧Row W wr.heap.size 0 128 (NB n P 0)∧(wr.alloc (.cells (bl fun _=>0).toArray 47)).rangeAt (w.heap.size+1) 0 (f3 (nP n P)):=by
     refine⟨_,rfl,hB.alloc hB.size _,(Below.heap_alloc _ _ _ (by omega)).trans hx,row_of (t:=47) (heap_alloc_new wr _),?_⟩
     rw[←mj_all]
     exact(hy.keep (Below.heap_alloc _ _ _ hyl)).all
    clear hR hy hB hx
    go_wp2_with (first
     | (refine @wG _ _ _ _ _ _ _ (by kernel_rfl) 83 (.tmp 4) (by rfl) (w.heap.size+1) 0 (by rfl) (f3 (nP n P)) _ hrg und3 rfl (size3 _) ?_; simp only[Act.put,aA]))
    rw[←hW]
    clear hW hrg
    have hb6:w.heap.size+2≤wr.heap.size:=by omega
    clear hyl hjn hj hj2
    generalize wr.heap.size=b6 at *
    clear wr
    have HI:Hid (Below w.heap.size w W∧W.heap[w.heap.size]?=some (.cells (bl fun _=>0).toArray 47 (0,0))∧Row W b6 0 128 (NB n P 0)∧∀i,i < 0→rightB (nP n P i)=true):=Lib.hid ⟨hB0,hx0,hr0,fun i hi=>by omega⟩
    clear hB0 hx0 hr0
    go_loopw [25] (fun i wr=>∃j:Nat,j≤3∧i=.int .i64 j∧Hid (Below w.heap.size w wr∧wr.heap[w.heap.size]?=some (.cells (bl fun _=>0).toArray 47 (0,0))∧Row wr b6 0 128 (NB n P j)∧∀i,i < j→rightB (nP n P i)=true)) (fun i _=>3 - (intOf i).toNat)
    case atStart=>exact⟨0,by omega,rfl,HI⟩
    case round=>
     clear HI
     obtain⟨j,hj,rfl,hR⟩:=hrel
     obtain⟨hB,hx,hr,hok⟩:=hR.out
     by_cases hj2:j < 3
     ·have hj0:(0:Int)≤(j:Int):=by omega
      have HOK:=Lib.hid hok
      have HR:=Lib.hid hr
      have hrl:=hr.lt
      have HNB:Hid (NB n P (j+1)=ppF 128 (40 * (j:Int)) (nP n P j) (NB n P j)):=Lib.hid rfl
      have HIX:=Lib.hid (run_index3 (nP n P) j hj2)
      have hpp:nP n P j=nP n P j:=rfl
      clear hok hR hr
      clear hpp
      obtain⟨p,HP⟩:∃p,Hid (nP n P j=p):=⟨_,Lib.hid rfl⟩
      rw[HP.out] at HIX HNB
      go_wp2_with fail
      rw[HIX.out]
      go_wp2_with (first
       | (refine @wpList_store_row _ _ _ _ _ _ _ rfl 24 (.tmp 8) (.tmp 28) rfl wr.heap.size (pV p).toArray rfl rfl 24 _ (heap_alloc_new wr _) (sizeP' _) rfl (pV_all _) ?_; rw[World.setRow_alloc_new]; simp only[Act.put]))
      have hb2:Below wr.heap.size wr (wr.alloc (.cells (pV p).toArray 24)):=(Below.refl _ _).alloc (Nat.le_refl _) _
      have hp2:(wr.alloc (.cells (pV p).toArray 24)).heap[wr.heap.size]?=some (.cells (pV p).toArray 24 (0,0)):=heap_alloc_new _ _
      generalize wr.alloc (.cells (pV p).toArray 24)=W2 at hb2 hp2 ⊢
      have hr2:=HR.out.block (hb2.block b6 hrl)
      have hx2:=(hb2.block w.heap.size (by omega)).trans hx
      have hB2:=hB.trans (hb2.mono hB.size)
      have hs2:=hb2.size
      clear hx hB hb2 HR HIX
      cases hrj:rightB p with
      | false=>
       have hnd:¬ ndOk n P:=fun h=>by have:=h.2 j hj2; rw[HP.out,hrj] at this; cases this
       have HV:=Lib.hid (HNO.out hnd)
       have hq:=fun w' h=>put_any w' 0 (some ⟨b6,0,none⟩) 128 128 (NB n P j) (40 * (j:Int)) p h (by omega)
       unfold PpPost at hq
       rw[(pp_bad (NB n P j) hrj).1,(pp_bad (j:=j) (NB n P j) hrj).2] at hq
       have HQ:=Lib.hid hq
       clear hq hnd hrj HP HNO HYES HNB HOK
       generalize NB n P j=F at *
       have HS0:Hid (NdW b6 wr.heap.size p F F W2 false { W2 with drawn:=W2.drawn+1 }):=Lib.hid ⟨fun _=>row_own (hr2.block rfl),fun e=>(by cases e),oB ⟨rfl,rfl,rfl,Nat.le_refl _,fun _ _=>rfl⟩,hp2⟩
       clear hr2 hp2
       refine QuietTail2.regionInv (n:=6) (Inv:=NcInv _ _ _ _ _ _ _ _ _ _ _ _ _ _ _ _ _ _ _ _ _ _ _ _ _ _ _ _ _ _ _ b6 wr.heap.size j p 1 F F W2) (by kernel_rfl) (by decide) (by kernel_rfl) ⟨_,_,_,_,_,_,rfl,by simp,by simp,by simp,by simp,by simp,by simp,HS0.out⟩ ?step ?fin
       case step=>
        rintro i o hi ho L a' w' ⟨u0,u1,u2,u3,u4,u5,rfl,i0,i1,i2,i3,i4,i5,iW⟩ hL hpre
        match i,hi with
        | 0,_=>
         simp at ho
         subst ho
         go_simp
         exact⟨_,u1,u2,u3,u4,u5,rfl,fun _=>rfl,nK i1 rfl,nK i2 rfl,nK i3 rfl,nK i4 rfl,nK i5 rfl,iW⟩
        | 1,_=>
         simp at ho
         subst ho
         go_simp
         exact⟨u0,_,u2,u3,u4,u5,rfl,nK i0 rfl,fun _=>rfl,nK i2 rfl,nK i3 rfl,nK i4 rfl,nK i5 rfl,iW⟩
        | 2,_=>
         simp at ho
         subst ho
         obtain rfl:=i1 (hpre 1 (by kernel_rfl))
         have k0:IntKind.i64.wrap (40 * (j:Int))=40 * j:=IntWalk.i64_in _ (by omega)
         go_simp
         exact⟨u0,_,_,u3,u4,u5,rfl,nK i0 rfl,nK i1 rfl,fun _=>rfl,nK i3 rfl,nK i4 rfl,nK i5 rfl,iW⟩
        | 3,_=>
         simp at ho
         subst ho
         refine wp_load_mid 24 (.tmp 8) rfl wr.heap.size 0 rfl (pV p) _ (rP iW.ptr) undP rfl (sizeP p) ?_
         simp only[Act.put,aA]
         exact⟨u0,u1,u2,_,u4,u5,rfl,nK i0 rfl,nK i1 rfl,nK i2 rfl,fun _=>rfl,nK i4 rfl,nK i5 rfl,iW⟩
        | 4,_=>
         simp at ho
         subst ho
         obtain rfl:=i0 (hpre 0 (by kernel_rfl))
         obtain rfl:=i2 (hpre 2 (by kernel_rfl))
         obtain rfl:=i3 (hpre 3 (by kernel_rfl))
         rw[hL] at iW
         go_simp
         refine(HQ.out w' (iW.o0 rfl)).mono ?_
         rintro _ w'' ⟨rfl,hG,hO⟩
         exact⟨_,u1,_,_,_,u5,rfl,nK i0 rfl,nK i1 rfl,nK i2 rfl,nK i3 rfl,fun _=>rfl,nK i5 rfl,(NdW.step (by omega) iW hG hO)⟩
        | 5,_=>
         simp at ho
         subst ho
         obtain rfl:=i4 (hpre 4 (by kernel_rfl))
         go_simp
         exact⟨u0,u1,u2,u3,_,_,rfl,nK i0 rfl,nK i1 rfl,nK i2 rfl,nK i3 rfl,nK i4 rfl,fun _=>rfl,iW⟩
        | i+6,h=>omega
       case fin=>
        rintro L a' w5 hall ⟨u0,u1,u2,u3,u4,u5,rfl,i0,i1,i2,i3,i4,i5,iW⟩
        obtain rfl:=i0 (hall 0 (by omega))
        obtain rfl:=i1 (hall 1 (by omega))
        obtain rfl:=i2 (hall 2 (by omega))
        obtain rfl:=i3 (hall 3 (by omega))
        obtain rfl:=i4 (hall 4 (by omega))
        obtain rfl:=i5 (hall 5 (by omega))
        have hW5:=iW
        rw[hall 4 (by omega)] at hW5
        clear iW
        clear i0 i1 i2 i3 i4 i5 hall
        simp only[List.drop_succ_cons,List.drop_zero]
        refine wpList_nil ?_
        have hG:=hW5.only
        have hx5:=(hG.block w.heap.size (by omega) (by simp; omega)).trans hx2
        have hB5:Below w.heap.size w w5:=hB2.grown hG (by have:=hB2.size; omega) (fun k hk=>by simp at hk; omega)
        have hO5:=own_row (hW5.o1 rfl)
        clear hW5 HS0 HQ hx2 hB2 hG
        go_wp2_with (first
         | (refine @wpList_buildG _ _ _ _ _ _ _ (by kernel_rfl) 47 #[] rfl (bl fun _=>0).toArray (by kernel_rfl) ?_; simp only[Act.put,aA])
         | (refine @wpList_store_row _ _ _ _ _ _ _ rfl 47 (.tmp 2) (.tmp 36) rfl w.heap.size (bl fun _=>0).toArray rfl rfl 47 _ hx5 (sizeB _) rfl (allB _) ?_; simp only[Act.put]))
        have hr9:=setRow_heap _ w.heap.size _ (bl fun _=>0).toArray 47 (0,0) hx5
        refine bodyPost_ret (results_bl rfl rfl rfl hr9) rfl ?_
        exact⟨by rw[HV.out.1,HV.out.2],hB5.trans ⟨rfl,rfl,rfl,by simp,fun k hk=>setRow_other _ _ k _ (by omega)⟩⟩
      | true=>
       have HOK2:Hid (∀i,i < j+1→rightB (nP n P i)=true):=Lib.hid (fun i hi=>by
        by_cases e:i=j
        ·subst e; rw[HP.out]; exact hrj
        ·exact HOK.out i (by omega))
       have hq:=fun w' h=>put_any w' 0 (some ⟨b6,0,none⟩) 128 128 (NB n P j) (40 * (j:Int)) p h (by omega)
       unfold PpPost at hq
       rw[←HNB.out,pp_at hj2 hrj] at hq
       have HQ:=Lib.hid hq
       clear hq hrj HP HNO HYES HOK
       generalize hF:NB n P j=F at *
       generalize hF':NB n P (j+1)=F' at *
       have HF':=Lib.hid hF'
       clear hF hF' HNB
       have HS0:Hid (NdW b6 wr.heap.size p F F' W2 false { W2 with drawn:=W2.drawn+1 }):=Lib.hid ⟨fun _=>row_own (hr2.block rfl),fun e=>(by cases e),oB ⟨rfl,rfl,rfl,Nat.le_refl _,fun _ _=>rfl⟩,hp2⟩
       clear hr2 hp2
       refine QuietTail2.regionInv (n:=6) (Inv:=NcInv _ _ _ _ _ _ _ _ _ _ _ _ _ _ _ _ _ _ _ _ _ _ _ _ _ _ _ _ _ _ _ b6 wr.heap.size j p 0 F F' W2) (by kernel_rfl) (by decide) (by kernel_rfl) ⟨_,_,_,_,_,_,rfl,by simp,by simp,by simp,by simp,by simp,by simp,HS0.out⟩ ?step ?fin
       case step=>
        rintro i o hi ho L a' w' ⟨u0,u1,u2,u3,u4,u5,rfl,i0,i1,i2,i3,i4,i5,iW⟩ hL hpre
        match i,hi with
        | 0,_=>
         simp at ho
         subst ho
         go_simp
         exact⟨_,u1,u2,u3,u4,u5,rfl,fun _=>rfl,nK i1 rfl,nK i2 rfl,nK i3 rfl,nK i4 rfl,nK i5 rfl,iW⟩
        | 1,_=>
         simp at ho
         subst ho
         go_simp
         exact⟨u0,_,u2,u3,u4,u5,rfl,nK i0 rfl,fun _=>rfl,nK i2 rfl,nK i3 rfl,nK i4 rfl,nK i5 rfl,iW⟩
        | 2,_=>
         simp at ho
         subst ho
         obtain rfl:=i1 (hpre 1 (by kernel_rfl))
         have k0:IntKind.i64.wrap (40 * (j:Int))=40 * j:=IntWalk.i64_in _ (by omega)
         go_simp
         exact⟨u0,_,_,u3,u4,u5,rfl,nK i0 rfl,nK i1 rfl,fun _=>rfl,nK i3 rfl,nK i4 rfl,nK i5 rfl,iW⟩
        | 3,_=>
         simp at ho
         subst ho
         refine wp_load_mid 24 (.tmp 8) rfl wr.heap.size 0 rfl (pV p) _ (rP iW.ptr) undP rfl (sizeP p) ?_
         simp only[Act.put,aA]
         exact⟨u0,u1,u2,_,u4,u5,rfl,nK i0 rfl,nK i1 rfl,nK i2 rfl,fun _=>rfl,nK i4 rfl,nK i5 rfl,iW⟩
        | 4,_=>
         simp at ho
         subst ho
         obtain rfl:=i0 (hpre 0 (by kernel_rfl))
         obtain rfl:=i2 (hpre 2 (by kernel_rfl))
         obtain rfl:=i3 (hpre 3 (by kernel_rfl))
         rw[hL] at iW
         go_simp
         refine(HQ.out w' (iW.o0 rfl)).mono ?_
         rintro _ w'' ⟨rfl,hG,hO⟩
         exact⟨_,u1,_,_,_,u5,rfl,nK i0 rfl,nK i1 rfl,nK i2 rfl,nK i3 rfl,fun _=>rfl,nK i5 rfl,(NdW.step (by omega) iW hG hO)⟩
        | 5,_=>
         simp at ho
         subst ho
         obtain rfl:=i4 (hpre 4 (by kernel_rfl))
         go_simp
         exact⟨u0,u1,u2,u3,_,_,rfl,nK i0 rfl,nK i1 rfl,nK i2 rfl,nK i3 rfl,nK i4 rfl,fun _=>rfl,iW⟩
        | i+6,h=>omega
       case fin=>
        rintro L a' w5 hall ⟨u0,u1,u2,u3,u4,u5,rfl,i0,i1,i2,i3,i4,i5,iW⟩
        obtain rfl:=i0 (hall 0 (by omega))
        obtain rfl:=i1 (hall 1 (by omega))
        obtain rfl:=i2 (hall 2 (by omega))
        obtain rfl:=i3 (hall 3 (by omega))
        obtain rfl:=i4 (hall 4 (by omega))
        obtain rfl:=i5 (hall 5 (by omega))
        have hW5:=iW
        rw[hall 4 (by omega)] at hW5
        clear iW
        clear i0 i1 i2 i3 i4 i5 hall
        simp only[List.drop_succ_cons,List.drop_zero]
        refine wpList_nil ?_
        have hG:=hW5.only
        have hx5:=(hG.block w.heap.size (by omega) (by simp; omega)).trans hx2
        have hB5:Below w.heap.size w w5:=hB2.grown hG (by have:=hB2.size; omega) (fun k hk=>by simp at hk; omega)
        have hO5:=own_row (hW5.o1 rfl)
        clear hW5 HS0 HQ hx2 hB2 hG
        have HN:Hid (Below w.heap.size w w5∧w5.heap[w.heap.size]?=some (.cells (bl fun _=>0).toArray 47 (0,0))∧Row w5 b6 0 128 (NB n P (j+1))∧∀i,i < j+1→rightB (nP n P i)=true):=Lib.hid ⟨hB5,hx5,by rw[HF'.out]; exact hO5,HOK2.out⟩
        clear hB5 hx5 hO5 HF' HOK2
        go_wp2_with fail
        go_roundw
        case rel=>exact⟨_,_,_,_,_,_,_,_,_,_,_,_,_,_,_,_,_,_,⟨j+1,by omega,by go_num,HN⟩,rfl⟩
        case measure=>simp[intOf]; omega
     ·obtain rfl:j=3:=by omega
      have HV:=Lib.hid (HYES.out ⟨hn3',hok⟩)
      have hrg:=row_range hr
      clear hok hR hr HNO HYES
      generalize NB n P 3=F at *
      go_wp2_with (first
       | (refine @wG _ _ _ _ _ _ _ (by kernel_rfl) 47 (.tmp 6) rfl b6 0 rfl (bl F) _ hrg undB rfl (sB _) ?_; simp only[Act.put,aA])
       | (refine @wpList_store_row _ _ _ _ _ _ _ rfl 47 (.tmp 2) (.tmp 39) rfl w.heap.size (bl F).toArray rfl rfl 47 _ hx (sizeB _) (by rw[List.size_toArray,List.size_toArray,bL,bL]) (allB _) ?_; simp only[Act.put]))
      have hr9:=setRow_heap _ w.heap.size _ (bl F).toArray 47 (0,0) hx
      refine bodyPost_ret (results_bl rfl rfl rfl hr9) rfl ?_
      exact⟨by rw[HV.out.1,HV.out.2],hB.trans ⟨rfl,rfl,rfl,by simp,fun k hk=>setRow_other _ _ k _ (by omega)⟩⟩
end Pt
namespace Pt
open Go.RowKit Dk Eqb Byt
theorem right_bd{p:Pn}(h:rightB p=true):(p.A = -1∨(0≤p.A∧p.A < 4096))∧(p.B = -1∨(0≤p.B∧p.B < 4096)):=by
 unfold rightB at h
 rcases Bool.or_eq_true _ _ ▸ h with h1 | h1
 ·obtain⟨a,b,_⟩:=eqP_iff.1 h1
  exact⟨.inl a,.inl b⟩
 ·simp only[Bool.and_eq_true,Bool.or_eq_true,secB_iff,beq_iff_eq] at h1
  exact⟨.inr h1.1,h1.2.imp id (·.1)⟩
theorem ppF_bytes{n:Nat}{a:Int}{p:Pn}{f:Nat→Int}(hf:∀i,i < n→0≤f i∧f i < 256)(hp:∀j,j < 32→0≤p.S j∧p.S j < 256):∀i,i < n→0≤ppF n a p f i∧ppF n a p f i < 256:=by
 have hput:∀(x k z:Int) (h:Nat→Int),(∀i,i < n→0≤h i∧h i < 256)→∀i,i < n→0≤Wd.putF n x k z h i∧Wd.putF n x k z h i < 256:=by
  intro x k z h hh
  unfold Wd.putF
  split
  ·exact fun i hi=>mix_byte hh (fun i _=>Wd.byteAt_bd z i) i hi
  ·exact hh
 unfold ppF
 split
 ·exact fun i hi=>mix_byte (hput _ _ _ _ (hput _ _ _ _ hf)) hp i hi
 ·exact hf
theorem pow8_32:(2:Int) ^ (8 * (4:Int).toNat)=4294967296:=by decide
theorem put_take4(n:Nat)(a z:Int)(f:Nat→Int)(h:Wd.putGood n a 4 z):Wd.takeN n a 4 (Wd.putF n a 4 z f)=z:=by
 have hg:=h
 obtain⟨h1,h2,h3,h4,h5,h6⟩:=h
 have hr:Wd.rightAt n a 4 8:=⟨h1,by omega,h3,h4⟩
 rw[pow8_32] at h6
 have hlt:z < 4294967296:=by omega
 have e:Wd.takeS a 4 (Wd.putF n a 4 z f)=z:=by
  unfold Wd.takeS Wd.putF
  rw[if_pos hg,Wd.sumLE_congr (g:=Wd.byteAt z) (fun i hi=>by rw[mix_in (by omega) (by omega),Nat.add_sub_cancel_left]),Wd.sumLE_byteAt,pow8_32]
  omega
 unfold Wd.takeN
 rw[e,if_pos hr,if_pos (by omega)]
theorem takeN_congr{n:Nat}{a:Int}{f g:Nat→Int}(h:∀i,i < 4→f (a.toNat+i)=g (a.toNat+i)):Wd.takeN n a 4 f=Wd.takeN n a 4 g:=by
 have e:Wd.takeS a 4 f=Wd.takeS a 4 g:=Wd.sumLE_congr fun i hi=>h i hi
 unfold Wd.takeN
 rw[e]
theorem side_good{n:Nat}{a z:Int}(h0:0≤a)(h1:a≤n - 4)(hz:z = -1∨(0≤z∧z < 4096)):Wd.putGood n a 4 (side z):=by
 refine⟨by omega,by omega,h0,h1,?_⟩
 rw[pow8_32]
 unfold side noneN
 split <;> omega
theorem side_take{n:Nat}{a z:Int}{f:Nat→Int}(hz:z = -1∨(0≤z∧z < 4096))(h:Wd.takeN n a 4 f=side z):sideT n a f=z:=by
 unfold sideT
 rw[h]
 unfold side noneN
 split
 ·rw[if_pos rfl]; omega
 ·rw[if_neg (by omega)]
theorem pV_eq{p q:Pn}(h0:p.A=q.A)(h1:p.B=q.B)(h2:∀j,j < 32→p.S j=q.S j):pV p=pV q:=by
 unfold pV
 rw[h0,h1]
 congr 2
 refine List.map_congr_left fun j hj=>?_
 rw[h2 j (by simpa using hj)]
theorem pV_inj{p q:Pn}(h:pV p=pV q):p.A=q.A∧p.B=q.B∧∀j,j < 32→p.S j=q.S j:=by
 refine⟨?_,?_,fun j hj=>?_⟩
 ·have:=congrArg (fun l=>l[0]?) h
  simpa[pV] using this
 ·have:=congrArg (fun l=>l[1]?) h
  simpa[pV] using this
 ·have:=congrArg (fun l=>l[2+j]?) h
  simp only[pV_sum p hj,pV_sum q hj] at this
  simpa using this
theorem isHole_congr{p q:Pn}(h:pV p=pV q):isHole p=isHole q:=by
 obtain⟨h0,h1,h2⟩:=pV_inj h
 have e:isHole p=true↔isHole q=true:=by
  unfold isHole
  rw[eqP_iff,eqP_iff,h0,h1]
  constructor
  ·exact fun⟨a,b,c⟩=>⟨a,b,fun i hi=>by rw[←h2 i hi]; exact c i hi⟩
  ·exact fun⟨a,b,c⟩=>⟨a,b,fun i hi=>by rw[h2 i hi]; exact c i hi⟩
 cases hp:isHole p <;> cases hq:isHole q <;> simp_all
theorem right_congr{p q:Pn}(h:pV p=pV q):rightB p=rightB q:=by
 obtain⟨h0,h1,_⟩:=pV_inj h
 unfold rightB
 rw[isHole_congr h,h0,h1]
theorem ppF_out{n:Nat}{a:Int}{p:Pn}{f:Nat→Int}{i:Nat}(hi:(i:Int) < a∨a+40≤i):ppF n a p f i=f i:=by
 unfold ppF
 split
 ·rename_i h
  unfold ppG at h
  simp only[Bool.and_eq_true,within_iff] at h
  rw[mix_out (by omega)]
  have hA:∀(x z:Int) (g:Nat→Int),a≤x→x+4≤a+8→Wd.putF n x 4 z g i=g i:=fun x z g h0 h1=>by
   unfold Wd.putF
   split
   ·exact mix_out (by omega)
   ·rfl
  rw[hA _ _ _ (by omega) (by omega),hA _ _ _ (by omega) (by omega)]
 ·rfl
theorem tkP_congr{n:Nat}{a:Int}{f g:Nat→Int}(ha:0≤a)(h:∀i:Nat,a≤i→(i:Int) < a+40→f i=g i):pV (tkP n a f)=pV (tkP n a g):=by
 unfold tkP
 refine pV_eq ?_ ?_ fun j hj=>?_
 ·show sideT n a f=sideT n a g
  unfold sideT
  rw[takeN_congr (f:=f) (g:=g) fun i hi=>h _ (by omega) (by omega)]
 ·show sideT n (a+4) f=sideT n (a+4) g
  unfold sideT
  rw[takeN_congr (f:=f) (g:=g) fun i hi=>h _ (by omega) (by omega)]
 ·exact h _ (by omega) (by omega)
theorem tk_pp{n:Nat}{a:Int}{p:Pn}(f:Nat→Int)(h:ppG n a p=true):pV (tkP n a (ppF n a p f))=pV p:=by
 have hg:=h
 unfold ppG at h
 simp only[Bool.and_eq_true,within_iff] at h
 obtain⟨hr,h0,h1⟩:=h
 obtain⟨hA,hB⟩:=right_bd hr
 have gA:Wd.putGood n a 4 (side p.A):=side_good h0 (by omega) hA
 have gB:Wd.putGood n (a+4) 4 (side p.B):=side_good (by omega) (by omega) hB
 have hF:ppF n a p f=mix (Wd.putF n (a+4) 4 (side p.B) (Wd.putF n a 4 (side p.A) f)) (a+8).toNat 32 p.S:=by unfold ppF; rw[if_pos hg]
 rw[hF]
 refine pV_eq ?_ ?_ fun j hj=>?_
 ·show sideT n a _=p.A
  refine side_take hA ?_
  rw[takeN_congr (g:=Wd.putF n a 4 (side p.A) f) fun i hi=>?_,put_take4 n a _ _ gA]
  rw[mix_out (by omega)]
  unfold Wd.putF
  rw[if_pos gB]
  exact mix_out (by omega)
 ·show sideT n (a+4) _=p.B
  refine side_take hB ?_
  rw[takeN_congr (g:=Wd.putF n (a+4) 4 (side p.B) (Wd.putF n a 4 (side p.A) f)) fun i hi=>?_,put_take4 n (a+4) _ _ gB]
  exact mix_out (by omega)
 ·show mix _ (a+8).toNat 32 p.S ((a+8).toNat+j)=p.S j
  rw[mix_in (by omega) (by omega),Nat.add_sub_cancel_left]
theorem NB_out{n:Nat}{P:Nat→Pn}{i:Nat}:∀{j:Nat},40 * j≤i→NB n P j i=0
 | 0,_=>rfl
 | j+1,h=>by
  show ppF 128 (40 * (j:Int)) (nP n P j) (NB n P j) i=0
  rw[ppF_out (by omega)]
  exact NB_out (by omega)
theorem node_tI{n:Nat}{P:Nat→Pn}(h:ndOk n P){i:Nat}(hi:i < 3):∀{j:Nat},i < j→j≤3→pV (tI (NB n P j) i)=pV (nP n P i)
 | 0,h0,_=>by omega
 | j+1,h0,h1=>by
  by_cases e:i=j
  ·subst e
   refine tk_pp (NB n P i) ?_
   have hw:withinB 128 (40 * (i:Int))=true:=within_iff.2 (by omega)
   unfold ppG
   rw[h.2 i hi,hw]
   rfl
  ·rw[←node_tI h hi (j:=j) (by omega) (by omega)]
   exact tkP_congr (by omega) fun k _ _=>ppF_out (by omega)
theorem node_ok{n:Nat}{P:Nat→Pn}(h:ndOk n P):paOk (NB n P 3):=by
 refine⟨fun i hi=>?_,?_⟩
 ·rw[right_congr (node_tI h hi (j:=3) hi (Nat.le_refl _))]
  exact h.2 i hi
 ·unfold zt
  rw[show(fun i=>NB n P 3 (120+i))=fun _=>0 from funext fun i=>NB_out (by omega)]
  rfl
theorem node_parts{n:Nat}{P:Nat→Pn}(h:ndOk n P):f3 (paV (NB n P 3))=f3 (nP n P)∧paE (NB n P 3)=0:=by
 obtain⟨h1,h2⟩:=pa_yes (node_ok h)
 exact⟨h1.trans (f3_congr fun i hi=>node_tI h hi hi (Nat.le_refl _)),h2⟩
theorem NB_bytes{n:Nat}{P:Nat→Pn}(hP:∀i,i < n→∀j,j < 32→0≤(P i).S j∧(P i).S j < 256):∀j,Bytes (NB n P j)
 | 0=>fun _ _=>by show(0:Int)≤0∧(0:Int) < 256; omega
 | j+1=>ppF_bytes (NB_bytes hP j) fun k hk=>by
  unfold nP
  split
  ·exact hP j (by assumption) k hk
  ·show(0:Int)≤0∧(0:Int) < 256; omega
end Pt
end Go.Proofs.YteaocagepfgfnaaGreatDoor
