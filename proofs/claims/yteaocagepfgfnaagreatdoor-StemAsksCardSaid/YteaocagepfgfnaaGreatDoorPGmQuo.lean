import Derived.Test.YteaocagepfgfnaaGreatDoorRows
import Derived.WalkKit
import Derived.WalkSmall
import Derived.Handy
import Derived.Lib.Hide
import Derived.Laws.Small
import Derived.Deep.MidRow
import Derived.BigQuiet
import Derived.Deep.QuietTactic
import Derived.Great.BuildSlice
import Derived.DeepKeys
import Derived.ChangeKeysEq
import Derived.Outline
import Derived.OwnWalk
import Derived.Test.YteaocagepfgfnaaGreatDoorPDkBase
import Derived.Test.YteaocagepfgfnaaGreatDoorPJSpA
set_option maxRecDepth 100000
set_option maxHeartbeats 8000000
namespace Go.Proofs.YteaocagepfgfnaaGreatDoor
namespace Gm
open Go.RowKit
structure Gg where
 S:Int
 H:Int
 R:Int
 L:Int
 J:Int
 Z:Int
def eqG(g h:Gg):Bool:=(g.S == h.S) && ((g.H == h.H) && ((g.R == h.R) && ((g.L == h.L) && ((g.J == h.J) && (g.Z == h.Z)))))
theorem eqG_iff{g h:Gg}:eqG g h=true↔g=h:=by
 obtain⟨a,b,c,d,e,f⟩:=g
 obtain⟨a',b',c',d',e',f'⟩:=h
 simp[eqG]
theorem eqG_same(g:Gg):eqG g g=true:=eqG_iff.2 rfl
theorem eqG_no{g h:Gg}(hn:g≠h):eqG g h=false:=by
 cases h1:eqG g h with
 | false=>rfl
 | true=>exact absurd (eqG_iff.1 h1) hn
def i64(z:Int):Prop:=-9223372036854775808≤z∧z≤9223372036854775807
def inQ(q:Int):Prop:=4≤q∧q≤900
instance (q:Int):Decidable (inQ q):=by unfold inQ; infer_instance
def zG:Gg:=⟨0,0,0,0,0,0⟩
def lay(q:Int):Gg:=⟨4 * q+316,2 * q+148,2,4,28,2 * q+120⟩
def geo(q:Int):Gg:=if inQ q then lay q else zG
def er(q:Int):Int:=if inQ q then 0 else 1
theorem geo_in{q:Int}(h:inQ q):geo q=lay q:=if_pos h
theorem geo_out{q:Int}(h:¬ inQ q):geo q=zG:=if_neg h
theorem er_in{q:Int}(h:inQ q):er q=0:=if_pos h
theorem er_out{q:Int}(h:¬ inQ q):er q=1:=if_neg h
theorem lay_inj{p q:Int}(h:lay p=lay q):p=q:=by
 have:=congrArg Gg.S h
 simp only[lay] at this
 omega
def fsq(n:Int):Int:=if (n - 316) % 4=0∧inQ ((n - 316) / 4) then (n - 316) / 4 else 0
theorem fsq_of{q:Int}(h:inQ q):fsq (4 * q+316)=q:=by
 have e:(4 * q+316 - 316) / 4=q:=by omega
 unfold fsq
 rw[if_pos ⟨by omega,by rw[e]; exact h⟩,e]
theorem fsq_no{n:Int}(h:∀q,inQ q→4 * q+316≠n):fsq n=0:=by
 unfold fsq
 split
 ·rename_i hq
  exact absurd (show 4 * ((n - 316) / 4)+316=n by omega) (h _ hq.2)
 ·rfl
theorem fsq_cases(n:Int):(∃q,inQ q∧n=4 * q+316∧fsq n=q)∨(fsq n=0∧∀q,inQ q→4 * q+316≠n):=by
 by_cases h:∃q,inQ q∧n=4 * q+316
 ·obtain⟨q,hq,rfl⟩:=h
  exact .inl ⟨q,hq,rfl,fsq_of hq⟩
 ·have h':∀q,inQ q→4 * q+316≠n:=fun q hq e=>h ⟨q,hq,e.symm⟩
  exact .inr ⟨fsq_no h',h'⟩
def qn(g:Gg):Int:=if eqG (lay (fsq g.S)) g=true∧inQ (fsq g.S) then fsq g.S else 0
theorem qn_of{q:Int}(h:inQ q):qn (lay q)=q:=by
 have e:fsq (lay q).S=q:=fsq_of h
 unfold qn
 rw[e,if_pos ⟨eqG_same _,h⟩]
theorem qn_no{g:Gg}(h:∀q,inQ q→lay q≠g):qn g=0:=by
 unfold qn
 split
 ·rename_i hq
  exact absurd (eqG_iff.1 hq.1) (h _ hq.2)
 ·rfl
theorem qn_cases(g:Gg):(∃q,inQ q∧g=lay q∧qn g=q)∨(qn g=0∧∀q,inQ q→lay q≠g):=by
 by_cases h:∃q,inQ q∧lay q=g
 ·obtain⟨q,hq,rfl⟩:=h
  exact .inl ⟨q,hq,rfl,qn_of hq⟩
 ·have h':∀q,inQ q→lay q≠g:=fun q hq e=>h ⟨q,hq,e⟩
  exact .inr ⟨qn_no h',h'⟩
structure Wh where
 k:Int
 h:Int
 i:Int
def inHalf(h i:Int):Wh:=if i < 2 then ⟨1,h,i⟩ else if i < 4 then ⟨2,h,i - 2⟩ else if i < 28 then ⟨3,h,i - 4⟩ else ⟨4,h,i - 28⟩
theorem ih2{h i:Int}(h1:2≤i)(h2:i < 4):inHalf h i=⟨2,h,i - 2⟩:=by unfold inHalf; rw[if_neg (by omega),if_pos h2]
def off(k:Int):Int:=if k=2 then 2 else if k=3 then 4 else 28
def cnt(q k:Int):Int:=if k=2 then 2 else if k=3 then 24 else 2 * q+120
def atB(q k h i:Int):Prop:=(h=0∨h=1)∧0≤i∧i < cnt q k
instance (q k h i:Int):Decidable (atB q k h i):=by unfold atB; infer_instance
def atI(q k h i:Int):Int:=h * (2 * q+148)+(off k+i)
def pl(g:Gg)(k h i:Int):Int:=if qn g=0 then 0 else if atB (qn g) k h i then atI (qn g) k h i else 0
def plE(g:Gg)(k h i:Int):Int:=if qn g=0 then 1 else if atB (qn g) k h i then 0 else 1
theorem pl_none{g:Gg}(hg:qn g=0)(k h i:Int):pl g k h i=0∧plE g k h i=1:=⟨if_pos hg,if_pos hg⟩
theorem pl_out{q:Int}(hq:inQ q){k h i:Int}(hb:¬ atB q k h i):pl (lay q) k h i=0∧plE (lay q) k h i=1:=by
 unfold pl plE
 rw[qn_of hq]
 have:q≠0:=by unfold inQ at hq; omega
 rw[if_neg this,if_neg this,if_neg hb,if_neg hb]
 exact⟨rfl,rfl⟩
theorem pl_in{q:Int}(hq:inQ q){k h i:Int}(hb:atB q k h i):pl (lay q) k h i=atI q k h i∧plE (lay q) k h i=0:=by
 unfold pl plE
 rw[qn_of hq]
 have:q≠0:=by unfold inQ at hq; omega
 rw[if_neg this,if_neg this,if_pos hb,if_pos hb]
 exact⟨rfl,rfl⟩
end Gm
namespace Gm
open Go.RowKit
def gA(g:Gg):Array Value:=#[.int .i64 g.S,.int .i64 g.H,.int .i64 g.R,.int .i64 g.L,.int .i64 g.J,.int .i64 g.Z]
theorem undG:Tryz.prog.underlying 69=some (.struct (Tryz.prog.fieldsOf 69)):=by kernel_rfl
theorem sizeG(g:Gg):(Tryz.prog.info? 69).map (·.size)=some (gA g).size:=by show _=some 6; kernel_rfl
theorem results_2g{tmps:Array Value}{w:World}{B:Nat}{g:Gg}{e:Int}{fn:Func}{s r:Nat}(hf:fn.results=#[.cell s 69,.tmp r])(h4:tmps.getD s undef=.pointer (some ⟨B,0,none⟩))(h5:tmps.getD r undef=.int .i64 e)
  (kV:w.heap[B]?=some (.cells (gA g) 69 (0,0))):(results fn tmps).run Tryz.prog w=.ok (.tuple #[.agg (gA g),.int .i64 e]) w:=by
 have h4':tmps[s]?.getD undef=.pointer (some ⟨B,0,none⟩):=by simpa using h4
 have h5':tmps[r]?.getD undef=.int .i64 e:=by simpa using h5
 have hv:=run_loadVar_row (P:=Tryz.prog) w B 69 69 (gA g) (0,0) _ kV undG rfl (sizeG g)
 simp[results,hf,h4',h5',asAddr,hv]
theorem allG(g:Gg):(gA g).all (·.oneCell')=true:=by simp[gA,Value.oneCell']
theorem w64_in(n:Int)(h:-9223372036854775808≤n∧n≤9223372036854775807):wrap64 n=n:=by unfold wrap64; omega
theorem below_row{K g:Nat}{w w':World}(h:Below K w w')(hg:K≤g)(cs:Array Value):Below K w (w'.setRow g cs):=h.trans ⟨rfl,rfl,rfl,by simp,fun k hk=>setRow_other w' _ k _ (by omega)⟩
theorem box_back{w w1:World}{cs:Array Value}(hb:Below (w.alloc (.cells cs 69)).heap.size (w.alloc (.cells cs 69)) w1):w1.heap[w.heap.size]?=some (.cells cs 69 (0,0))∧w.heap.size < w1.heap.size∧Below w.heap.size w w1:=by
 have hs:=hb.size
 have e:(w.alloc (.cells cs 69)).heap.size=w.heap.size+1:=by simp
 rw[e] at hb hs
 exact⟨(hb.block _ (by omega)).trans (heap_alloc_new _ _),by omega,((Below.refl _ _).alloc (Nat.le_refl _) _).trans (hb.mono (by omega))⟩
theorem forq_any(q:Int)(w:World):Calls Tryz.prog 58 #[.int .i64 q] w fun e w'=>e=.returned (.tuple #[.agg (gA (geo q)),.int .i64 (er q)])∧Below w.heap.size w w':=by
 by_cases h1:q < 4
 ·have hn:¬ inQ q:=by unfold inQ; omega
  rw[geo_out hn,er_out hn]
  go_enter Tryz.func58,Tryz.ntmps58
  go_wp2_with fail
  refine bodyPost_ret (results_2g (g:=zG) rfl rfl rfl (heap_alloc_new w _)) rfl ?_
  exact⟨rfl,(Below.refl _ _).alloc (Nat.le_refl _) _⟩
 by_cases h2:900 < q
 ·have hn:¬ inQ q:=by unfold inQ; omega
  rw[geo_out hn,er_out hn]
  go_enter Tryz.func58,Tryz.ntmps58
  go_wp2_with fail
  refine bodyPost_ret (results_2g (g:=zG) rfl rfl rfl (heap_alloc_new w _)) rfl ?_
  exact⟨rfl,(Below.refl _ _).alloc (Nat.le_refl _) _⟩
 ·have hn:inQ q:=by unfold inQ; omega
  rw[geo_in hn,er_in hn]
  clear hn
  go_enter Tryz.func58,Tryz.ntmps58
  go_wp2_with fail
  refine bodyPost_ret (results_2g (g:=lay q) rfl rfl rfl (by rw[heap_alloc_new]; simp[gA,lay]; omega)) rfl ?_
  exact⟨rfl,(Below.refl _ _).alloc (Nat.le_refl _) _⟩
end Gm
namespace Gm
open Go.RowKit
def qc(n:Int):Int:=wrap64 ((wrap64 (wrap64 (wrap64 ((wrap64 (n - 20)).tdiv 2) - 28) - 120)).tdiv 2)
theorem qc_of{q:Int}(h:inQ q):qc (4 * q+316)=q:=by
 unfold inQ at h
 unfold qc
 have e1:wrap64 (4 * q+316 - 20)=2 * (2 * q+148):=by rw[w64_in _ (by omega)]; omega
 have e2:(2 * (2 * q+148)).tdiv 2=2 * q+148:=Int.mul_tdiv_cancel_left _ (by decide)
 have e3:wrap64 (2 * q+148)=2 * q+148:=w64_in _ (by omega)
 have e4:wrap64 (2 * q+148 - 28)=2 * q+120:=by rw[w64_in _ (by omega)]; omega
 have e5:wrap64 (2 * q+120 - 120)=2 * q:=by rw[w64_in _ (by omega)]; omega
 have e6:(2 * q).tdiv 2=q:=Int.mul_tdiv_cancel_left _ (by decide)
 have e7:wrap64 q=q:=w64_in _ (by omega)
 rw[e1,e2,e3,e4,e5,e6,e7]
theorem qc_no{n q:Int}(h:fsq n=0)(_e:qc n=q)(hq:inQ q):4 * q+316≠n:=fun e2=>by
 rw[←e2,fsq_of hq] at h
 unfold inQ at hq
 omega
theorem fors_any(n:Int)(w:World)(hn:i64 n):Calls Tryz.prog 154 #[.int .i64 n] w fun e w'=>e=.returned (.tuple #[.agg (gA (geo (fsq n))),.int .i64 (er (fsq n))])∧Below w.heap.size w w':=by
 have HF:=Lib.hid (forq_any (qc n))
 obtain⟨hn1,hn2⟩:=hn
 rcases fsq_cases n with ⟨q,hq,hnq,hf⟩ | ⟨hf,hno⟩
 ·have HQ:Hid (n=4 * q+316∧qc n=q):=Lib.hid ⟨hnq,by rw[hnq]; exact qc_of hq⟩
  rw[hf,geo_in hq,er_in hq]
  rw[HQ.out.2,geo_in hq,er_in hq] at HF
  clear hnq hf
  unfold inQ at hq
  obtain⟨hq1,hq2⟩:=hq
  go_enter Tryz.func154,Tryz.ntmps154
  go_wp2_with fail
  show Calls _ _ #[.int .i64 (qc n)] _ _
  rw[HQ.out.2]
  refine(HF.out _).mono ?_
  rintro _ w1 ⟨rfl,hb1⟩
  dsimp only [gA,lay]
  obtain⟨hr,hs,hb⟩:=box_back hb1
  have HR:=Lib.hid ((((Below.refl (w.heap.size+1) w1).alloc hs (.cells (gA (lay q)) 69)).block w.heap.size (by omega)).trans hr)
  have HB:=Lib.hid (hb.alloc (Nat.le_of_lt hs) (.cells (gA (lay q)) 69))
  have hnq:=HQ.out.1
  clear HQ hr hb hb1 HF
  subst hnq
  go_wp2_with (refine wpList_store_row rfl 69 (.tmp 2) (.tmp 27) rfl w.heap.size (gA (lay q)) rfl rfl 69 _ HR.out (sizeG _) rfl (allG _) ?_; simp only[Act.put])
  refine bodyPost_ret (results_2g (B:=w.heap.size) (g:=lay q) rfl rfl rfl (setRow_heap _ _ _ _ _ _ HR.out)) rfl ?_
  exact⟨rfl,below_row HB.out (Nat.le_refl _) _⟩
 ·rw[hf]
  have HQ:Hid (inQ (qc n)→4 * qc n+316≠n):=Lib.hid fun h=>qc_no hf rfl h
  clear hno hf
  have e0:¬ inQ 0:=by unfold inQ; omega
  rw[geo_out e0,er_out e0]
  clear e0
  by_cases hq:inQ (qc n)
  ·rw[geo_in hq,er_in hq] at HF
   have hne:=HQ.out hq
   have HNE:=Lib.hid hne
   unfold inQ at hq
   clear hne HQ
   go_enter Tryz.func154,Tryz.ntmps154
   go_wp2_with fail
   show Calls _ _ #[.int .i64 (qc n)] _ _
   refine(HF.out _).mono ?_
   rintro _ w1 ⟨rfl,hb1⟩
   dsimp only [gA,lay]
   have hne:=HNE.out
   clear HF HNE
   generalize qc n=q at *
   obtain⟨hq1,hq2⟩:=hq
   obtain⟨hr,hs,hb⟩:=box_back hb1
   have HR:=Lib.hid ((((Below.refl (w.heap.size+1) w1).alloc hs (.cells (gA (lay q)) 69)).block w.heap.size (by omega)).trans hr)
   have HB:=Lib.hid (hb.alloc (Nat.le_of_lt hs) (.cells (gA (lay q)) 69))
   clear hr hb hb1
   go_wp2_with (refine wpList_store_row rfl 69 (.tmp 2) (.tmp 26) rfl w.heap.size (gA zG) rfl rfl 69 _ HR.out (sizeG _) rfl (allG _) ?_; simp only[Act.put])
   refine bodyPost_ret (results_2g (B:=w.heap.size) (g:=zG) rfl rfl rfl (setRow_heap _ _ _ _ _ _ HR.out)) rfl ?_
   exact⟨rfl,below_row HB.out (Nat.le_refl _) _⟩
  ·rw[geo_out hq,er_out hq] at HF
   clear hq
   go_enter Tryz.func154,Tryz.ntmps154
   go_wp2_with fail
   show Calls _ _ #[.int .i64 (qc n)] _ _
   refine(HF.out _).mono ?_
   rintro _ w1 ⟨rfl,hb1⟩
   dsimp only [gA,zG]
   clear HF HQ
   obtain⟨hr,hs,hb⟩:=box_back hb1
   have HR:=Lib.hid ((((Below.refl (w.heap.size+1) w1).alloc hs (.cells (gA zG) 69)).block w.heap.size (by omega)).trans hr)
   have HB:=Lib.hid (hb.alloc (Nat.le_of_lt hs) (.cells (gA zG) 69))
   clear hr hb hb1
   go_wp2_with (refine wpList_store_row rfl 69 (.tmp 2) (.tmp 26) rfl w.heap.size (gA zG) rfl rfl 69 _ HR.out (sizeG _) rfl (allG _) ?_; simp only[Act.put])
   refine bodyPost_ret (results_2g (B:=w.heap.size) (g:=zG) rfl rfl rfl (setRow_heap _ _ _ _ _ _ HR.out)) rfl ?_
   exact⟨rfl,below_row HB.out (Nat.le_refl _) _⟩
end Gm
namespace Gm
open Go.RowKit
theorem part_g(X:Array Value)(o:Nat)(z:Int)(h:X[o]?=some (.int .i64 z))(w:World):(part 3 X o).run Tryz.prog w=.ok (.int .i64 z) w:=run_part_plain w (by kernel_rfl) h
theorem eq_g(g h:Gg)(w:World):(Op.equalIn 10000 69 (.agg (gA g)) (.agg (gA h))).run Tryz.prog w=.ok (eqG g h) w:=by
 rw[run_equalIn_struct w 9999 69 _ _ (by kernel_rfl) (by kernel_rfl)]
 obtain ⟨f0, f1, f2, f3, f4, f5, hf, t0, o0, n0, t1, o1, n1, t2, o2, n2, t3, o3, n3, t4, o4, n4, t5, o5, n5⟩ : ∃ f0 f1 f2 f3 f4 f5 : Field, (Tryz.prog.fieldsOf 69).toList = [f0, f1, f2, f3, f4, f5] ∧ f0.type = 3 ∧ f0.offset = 0 ∧ (f0.name ≠ "_") ∧ f1.type = 3 ∧ f1.offset = 1 ∧ (f1.name ≠ "_") ∧ f2.type = 3 ∧ f2.offset = 2 ∧ (f2.name ≠ "_") ∧ f3.type = 3 ∧ f3.offset = 3 ∧ (f3.name ≠ "_") ∧ f4.type = 3 ∧ f4.offset = 4 ∧ (f4.name ≠ "_") ∧ f5.type = 3 ∧ f5.offset = 5 ∧ (f5.name ≠ "_") :=
  ⟨_,_,_,_,_,_,rfl,rfl,rfl,by decide,rfl,rfl,by decide,rfl,rfl,by decide,rfl,rfl,by decide,rfl,rfl,by decide,rfl,rfl,by decide⟩
 rw[hf]
 unfold eqG
 simp only[Op.eqFields,Sem.run_bind,Sem.run_ite,if_pos n0,if_pos n1,if_pos n2,if_pos n3,if_pos n4,if_pos n5,t0,o0,t1,o1,t2,o2,t3,o3,t4,o4,t5,o5]
 rw[part_g (gA g) 0 g.S rfl w,Result.andThen_ok,part_g (gA h) 0 h.S rfl w,Result.andThen_ok,run_equalIn_int w 9998 _ .i64 .i64 _ _ (by kernel_rfl),Result.andThen_ok]
 cases h0:g.S == h.S with
 | false=>simp
 | true=>
 simp only[Bool.not_true,Bool.false_eq_true,if_false,Bool.true_and]
 rw[part_g (gA g) 1 g.H rfl w,Result.andThen_ok,part_g (gA h) 1 h.H rfl w,Result.andThen_ok,run_equalIn_int w 9998 _ .i64 .i64 _ _ (by kernel_rfl),Result.andThen_ok]
 cases h1:g.H == h.H with
 | false=>simp
 | true=>
 simp only[Bool.not_true,Bool.false_eq_true,if_false,Bool.true_and]
 rw[part_g (gA g) 2 g.R rfl w,Result.andThen_ok,part_g (gA h) 2 h.R rfl w,Result.andThen_ok,run_equalIn_int w 9998 _ .i64 .i64 _ _ (by kernel_rfl),Result.andThen_ok]
 cases h2:g.R == h.R with
 | false=>simp
 | true=>
 simp only[Bool.not_true,Bool.false_eq_true,if_false,Bool.true_and]
 rw[part_g (gA g) 3 g.L rfl w,Result.andThen_ok,part_g (gA h) 3 h.L rfl w,Result.andThen_ok,run_equalIn_int w 9998 _ .i64 .i64 _ _ (by kernel_rfl),Result.andThen_ok]
 cases h3:g.L == h.L with
 | false=>simp
 | true=>
 simp only[Bool.not_true,Bool.false_eq_true,if_false,Bool.true_and]
 rw[part_g (gA g) 4 g.J rfl w,Result.andThen_ok,part_g (gA h) 4 h.J rfl w,Result.andThen_ok,run_equalIn_int w 9998 _ .i64 .i64 _ _ (by kernel_rfl),Result.andThen_ok]
 cases h4:g.J == h.J with
 | false=>simp
 | true=>
 simp only[Bool.not_true,Bool.false_eq_true,if_false,Bool.true_and]
 rw[part_g (gA g) 5 g.Z rfl w,Result.andThen_ok,part_g (gA h) 5 h.Z rfl w,Result.andThen_ok,run_equalIn_int w 9998 _ .i64 .i64 _ _ (by kernel_rfl),Result.andThen_ok]
 cases h5:g.Z == h.Z with
 | false=>simp
 | true=>simp
theorem guardG:Tryz.prog.eqGuardType Tryz.prog.depth 69=false:=by kernel_rfl
theorem wpList_val{P:Program}{ops:Array Oper}{rest:List Oper}{o:Oper}{a:Act}{w:World}{Q:Exit→Act→World→Prop}(v:Value)(hw:Region.wanted o (yielded ops a.tmps)=true)(ho:(execOp a.eval o).run P w=.ok (.value v) w)
  (h:wpList P ops Q rest (a.put o.dst v) w):wpList P ops Q (o :: rest) a w:=
 BigFrame.wpList_want hw fun _ hK=>by
  unfold Oper.wp
  rw[ho]
  exact hK _ _ h
theorem wpList_neqG{ops:Array Oper}{rest:List Oper}{o:Oper}{a:Act}{w:World}{Q:Exit→Act→World→Prop}(x y:Operand)(ho:o.op=.binOp .neq 69 x y 69)(hw:Region.wanted o (yielded ops a.tmps)=true)(g h:Gg)(hx:a.eval x=.agg (gA g))(hy:a.eval y=.agg (gA h))
  (k:wpList Tryz.prog ops Q rest (a.put o.dst (.bool (!eqG g h))) w):wpList Tryz.prog ops Q (o :: rest) a w:=
 wpList_val (.bool (!eqG g h)) hw (by
  unfold execOp
  simp only[ho,hx,hy,Sem.run_bind,run_eqGuard_agg w _ _ _ _ _ _ guardG,run_neq_struct,eq_g,Result.andThen_ok]
  rfl) k
structure Bg(w:World)(b:Nat)(g:Gg):Prop where
 row:w.heap[b]?=some (.cells (gA g) 69 (0,0))
section
variable {w w':World}{b:Nat}{g:Gg}
theorem Bg.c0(h:Bg w b g):w.cell? ⟨b,0,none⟩=some (.int .i64 g.S):=by rw[cell_of_row w b 0 _ _ _ h.row]; rfl
theorem Bg.c1(h:Bg w b g):w.cell? ⟨b,1,none⟩=some (.int .i64 g.H):=by rw[cell_of_row w b 1 _ _ _ h.row]; rfl
theorem Bg.c2(h:Bg w b g):w.cell? ⟨b,2,none⟩=some (.int .i64 g.R):=by rw[cell_of_row w b 2 _ _ _ h.row]; rfl
theorem Bg.c3(h:Bg w b g):w.cell? ⟨b,3,none⟩=some (.int .i64 g.L):=by rw[cell_of_row w b 3 _ _ _ h.row]; rfl
theorem Bg.c4(h:Bg w b g):w.cell? ⟨b,4,none⟩=some (.int .i64 g.J):=by rw[cell_of_row w b 4 _ _ _ h.row]; rfl
theorem Bg.c5(h:Bg w b g):w.cell? ⟨b,5,none⟩=some (.int .i64 g.Z):=by rw[cell_of_row w b 5 _ _ _ h.row]; rfl
theorem Bg.lt(h:Bg w b g):b < w.heap.size:=(Array.getElem?_eq_some_iff.1 h.row).1
theorem Bg.below(h:Bg w b g){K:Nat}(hb:Below K w w')(hg:b < K):Bg w' b g:=⟨(hb.block b hg).trans h.row⟩
theorem box_g(w:World)(g:Gg):∃W,W=w.alloc (.cells (gA g) 69)∧Hid (Bg W w.heap.size g∧W.heap.size=w.heap.size+1∧Below w.heap.size w W):=
 ⟨_,rfl,Lib.hid ⟨⟨heap_alloc_new _ _⟩,by simp,(Below.refl _ _).alloc (Nat.le_refl _) _⟩⟩
end
theorem tdiv_two(q:Int):(2 * q).tdiv 2=q:=Int.mul_tdiv_cancel_left _ (by decide)
theorem and_two(q:Int):2 * q+120 - 120=2 * q:=by omega
theorem quota_any(g:Gg)(w:World)(hS:i64 g.S):Calls Tryz.prog 171 #[.agg (gA g)] w fun e w'=>e=.returned (.int .i64 (qn g))∧Below w.heap.size w w':=by
 have HF:=Lib.hid (fun w=>fors_any g.S w hS)
 obtain⟨W,hW,HX⟩:=box_g w g
 have c0:=HX.out.1.c0
 have hws:=HX.out.2.1
 rcases qn_cases g with ⟨q,hq,hg,hn⟩ | ⟨hn,hno⟩
 ·subst hg
  rw[hn]
  have e1:fsq (lay q).S=q:=fsq_of hq
  rw[e1,geo_in hq,er_in hq] at HF
  have e8:=and_two q
  have e9:=tdiv_two q
  unfold inQ at hq
  obtain⟨hq1,hq2⟩:=hq
  clear hn e1 hS
  dsimp only [gA,lay] at c0 HF hW ⊢
  go_enter Tryz.func171,Tryz.ntmps171
  go_wp2_with (rw[←hW])
  clear hW
  refine(HF.out _).mono ?_
  rintro _ w1 ⟨rfl,hb1⟩
  dsimp only
  obtain⟨W2,hW2,HY⟩:=box_g w1 (lay q)
  have hx1:=HX.out.1.below hb1 (by omega)
  have hs1:=hb1.size
  have x:=hx1.below HY.out.2.2 (by omega)
  have y:=HY.out.1
  have x0:=x.c0; have x1:=x.c1; have x2:=x.c2; have x3:=x.c3; have x4:=x.c4; have x5:=x.c5
  have y0:=y.c0; have y1:=y.c1; have y2:=y.c2; have y3:=y.c3; have y4:=y.c4; have y5:=y.c5
  have HB:=Lib.hid (HX.out.2.2.trans ((hb1.trans (HY.out.2.2.mono (by omega))).mono (by omega)))
  clear hx1 hb1 x y
  dsimp only [gA,lay] at x0 x1 x2 x3 x4 x5 y0 y1 y2 y3 y4 y5 hW2
  subst hW2
  go_wp2_with fail
  go_ret
  exact⟨rfl,HB.out⟩
 ·by_cases hi:inQ (fsq g.S)
  ·have HN:=Lib.hid (eqG_no (hno _ hi))
   rw[geo_in hi,er_in hi] at HF
   rw[hn]
   clear hi hn hno hS
   generalize fsq g.S=p at *
   obtain⟨S,H,R,L,J,Z⟩:=g
   dsimp only [gA,lay] at c0 HF hW ⊢
   go_enter Tryz.func171,Tryz.ntmps171
   go_wp2_with (rw[←hW])
   clear hW
   refine(HF.out _).mono ?_
   rintro _ w1 ⟨rfl,hb1⟩
   dsimp only
   obtain⟨W2,hW2,HY⟩:=box_g w1 (lay p)
   have hx1:=HX.out.1.below hb1 (by omega)
   have hs1:=hb1.size
   have x:=hx1.below HY.out.2.2 (by omega)
   have y:=HY.out.1
   have x0:=x.c0; have x1:=x.c1; have x2:=x.c2; have x3:=x.c3; have x4:=x.c4; have x5:=x.c5
   have y0:=y.c0; have y1:=y.c1; have y2:=y.c2; have y3:=y.c3; have y4:=y.c4; have y5:=y.c5
   have HB:=Lib.hid (HX.out.2.2.trans ((hb1.trans (HY.out.2.2.mono (by omega))).mono (by omega)))
   clear hx1 hb1 x y
   dsimp only [gA,lay] at x0 x1 x2 x3 x4 x5 y0 y1 y2 y3 y4 y5 hW2
   subst hW2
   go_wp2_with ((refine @wpList_neqG _ _ _ _ _ _ (.tmp 14) (.tmp 15) rfl rfl (lay p) ⟨S,H,R,L,J,Z⟩ rfl rfl ?_; rw[HN.out]; simp only[Act.put]))
   go_ret
   exact⟨rfl,HB.out⟩
  ·rw[geo_out hi,er_out hi] at HF
   rw[hn]
   clear hi hn hno hS
   obtain⟨S,H,R,L,J,Z⟩:=g
   dsimp only [gA,zG] at c0 HF hW ⊢
   go_enter Tryz.func171,Tryz.ntmps171
   go_wp2_with (rw[←hW])
   clear hW
   refine(HF.out _).mono ?_
   rintro _ w1 ⟨rfl,hb1⟩
   dsimp only
   have hs1:=hb1.size
   go_wp2_with fail
   go_ret
   exact⟨rfl,HX.out.2.2.trans ((hb1.mono (by omega)).alloc (by omega) _)⟩
end Gm
namespace Gm
open Go.RowKit
theorem cells_lay{w:World}{b:Nat}{q:Int}(h:Bg w b (lay q)):w.cell? ⟨b,0,none⟩=some (.int .i64 (4 * q+316))∧w.cell? ⟨b,1,none⟩=some (.int .i64 (2 * q+148))∧w.cell? ⟨b,2,none⟩=some (.int .i64 2)∧w.cell? ⟨b,3,none⟩=some (.int .i64 4)∧w.cell? ⟨b,4,none⟩=some (.int .i64 28)∧w.cell? ⟨b,5,none⟩=some (.int .i64 (2 * q+120)):=
 ⟨h.c0,h.c1,h.c2,h.c3,h.c4,h.c5⟩
end Gm
namespace Gm
open Go.RowKit
def ihI(g:Gg)(h i:Int):Int:=if qn g=0∨h < 0∨2≤h then 0 else h * g.H+i
def ihE(g:Gg)(h:Int):Int:=if qn g=0∨h < 0∨2≤h then 1 else 0
theorem ih_no{g:Gg}{h:Int}(c:qn g=0∨h < 0∨2≤h)(i:Int):ihI g h i=0∧ihE g h=1:=⟨if_pos c,if_pos c⟩
theorem ih_yes{q h:Int}(hq:inQ q)(h0:0≤h)(h1:h < 2)(i:Int):ihI (lay q) h i=h * (2 * q+148)+i∧ihE (lay q) h=0:=by
 have c:¬ (qn (lay q)=0∨h < 0∨2≤h):=by
  rw[qn_of hq]
  unfold inQ at hq
  omega
 exact⟨if_neg c,if_neg c⟩
theorem ih_pl{g:Gg}{k h i j:Int}(_hk:k=2∨k=3∨k=4)(hi:∀q,inQ q→g=lay q→0≤i∧i < cnt q k∧j=off k+i):ihI g h j=pl g k h i∧ihE g h=plE g k h i:=by
 rcases qn_cases g with ⟨q,hq,hg,hn⟩ | ⟨hn,_⟩
 ·obtain⟨i0,i1,rfl⟩:=hi q hq hg
  subst hg
  by_cases hh:h=0∨h=1
  ·have hb:atB q k h i:=⟨hh,i0,i1⟩
   rw[(pl_in hq hb).1,(pl_in hq hb).2,(ih_yes hq (by omega) (by omega) _).1,(ih_yes hq (by omega) (by omega) (off k+i)).2]
   exact⟨rfl,rfl⟩
  ·have hb:¬ atB q k h i:=fun c=>hh c.1
   rw[(pl_out hq hb).1,(pl_out hq hb).2]
   exact ih_no (by omega) _
 ·rw[(pl_none hn k h i).1,(pl_none hn k h i).2]
  exact ih_no (.inl hn) _
theorem inhalf_any(g:Gg)(h i:Int)(w:World)(hS:i64 g.S)(hi:qn g=0∨0≤i∧i≤4096):Calls Tryz.prog 153 #[.agg (gA g),.int .i64 h,.int .i64 i] w fun e w'=>e=.returned (.tuple #[.int .i64 (ihI g h i),.int .i64 (ihE g h)])∧Below w.heap.size w w':=by
 have HQ:=Lib.hid (fun w=>quota_any g w hS)
 obtain⟨W,hW,HX⟩:=box_g w g
 have hws:=HX.out.2.1
 have c0:=HX.out.1.c0
 have c1:=HX.out.1.c1
 have c2:=HX.out.1.c2
 have c3:=HX.out.1.c3
 have c4:=HX.out.1.c4
 have c5:=HX.out.1.c5
 rcases qn_cases g with ⟨q,hq,hg,hn⟩ | ⟨hn,_⟩
 ·subst hg
  have HC:=Lib.hid (fun w' (h:Below W.heap.size W w')=>cells_lay (HX.out.1.below h (by omega)))
  rw[hn] at HQ hi
  have HQQ:=Lib.hid hq
  unfold inQ at hq
  obtain⟨hq1,hq2⟩:=hq
  have b0:(q == 0)=false:=by simp; omega
  obtain⟨hi0,hi1⟩:=hi.resolve_left (by omega)
  clear hn hi
  by_cases h0:h < 0
  ·rw[(ih_no (.inr (.inl h0)) _).1,(ih_no (.inr (.inl h0)) i).2]
   have b1:decide (h < 0)=true:=decide_eq_true h0
   dsimp only [gA,lay] at hW HQ c0 c1 c2 c3 c4 c5 ⊢
   go_enter Tryz.func153,Tryz.ntmps153
   go_wp2_with (rw[←hW])
   clear hW
   refine(HQ.out _).mono ?_
   rintro _ w1 ⟨rfl,hb1⟩
   dsimp only
   go_wp2_with fail
   go_ret2
   exact⟨rfl,HX.out.2.2.trans (hb1.mono (by omega))⟩
  have b1:decide (h < 0)=false:=decide_eq_false h0
  by_cases h2:2≤h
  ·rw[(ih_no (.inr (.inr h2)) _).1,(ih_no (.inr (.inr h2)) i).2]
   have b2:decide (2≤h)=true:=decide_eq_true h2
   dsimp only [gA,lay] at hW HQ c0 c1 c2 c3 c4 c5 ⊢
   go_enter Tryz.func153,Tryz.ntmps153
   go_wp2_with (rw[←hW])
   clear hW
   refine(HQ.out _).mono ?_
   rintro _ w1 ⟨rfl,hb1⟩
   dsimp only
   go_wp2_with fail
   go_ret2
   exact⟨rfl,HX.out.2.2.trans (hb1.mono (by omega))⟩
  rw[(ih_yes HQQ.out (by omega) (by omega) i).1,(ih_yes HQQ.out (by omega:0≤h) (by omega) i).2]
  obtain rfl | rfl:h=0∨h=1:=by omega
  ·clear h0 b1 h2
   dsimp only [gA,lay] at hW HQ c0 c1 c2 c3 c4 c5 ⊢
   go_enter Tryz.func153,Tryz.ntmps153
   go_wp2_with (rw[←hW])
   clear hW
   refine(HQ.out _).mono ?_
   rintro _ w1 ⟨rfl,hb1⟩
   obtain⟨d0,d1,d2,d3,d4,d5⟩:=HC.out w1 hb1
   have HB:=Lib.hid hb1
   clear hb1
   dsimp only
   go_wp2_with fail
   go_ret2
   exact⟨by simp,HX.out.2.2.trans (HB.out.mono (by omega))⟩
  ·clear h0 b1 h2
   dsimp only [gA,lay] at hW HQ c0 c1 c2 c3 c4 c5 ⊢
   go_enter Tryz.func153,Tryz.ntmps153
   go_wp2_with (rw[←hW])
   clear hW
   refine(HQ.out _).mono ?_
   rintro _ w1 ⟨rfl,hb1⟩
   obtain⟨d0,d1,d2,d3,d4,d5⟩:=HC.out w1 hb1
   have HB:=Lib.hid hb1
   clear hb1
   dsimp only
   go_wp2_with fail
   go_ret2
   exact⟨by simp,HX.out.2.2.trans (HB.out.mono (by omega))⟩
 ·rw[(ih_no (.inl hn) _).1,(ih_no (.inl hn) i).2]
  rw[hn] at HQ
  clear hn hi hS
  obtain⟨S,H,R,L,J,Z⟩:=g
  dsimp only [gA] at hW HQ c0 c1 c2 c3 c4 c5 ⊢
  go_enter Tryz.func153,Tryz.ntmps153
  go_wp2_with (rw[←hW])
  clear hW
  refine(HQ.out _).mono ?_
  rintro _ w1 ⟨rfl,hb1⟩
  dsimp only
  go_wp2_with fail
  go_ret2
  exact⟨rfl,HX.out.2.2.trans (hb1.mono (by omega))⟩
end Gm
namespace Gm
open Go.RowKit
theorem inhalf_pl(g:Gg)(k h i j:Int)(w:World)(hS:i64 g.S)(hk:k=2∨k=3∨k=4)(hi:∀q,inQ q→g=lay q→0≤i∧i < cnt q k∧j=off k+i):Calls Tryz.prog 153 #[.agg (gA g),.int .i64 h,.int .i64 j] w fun e w'=>e=.returned (.tuple #[.int .i64 (pl g k h i),.int .i64 (plE g k h i)])∧Below w.heap.size w w':=by
 obtain⟨e1,e2⟩:=ih_pl (h:=h) hk hi
 rw[←e1,←e2]
 refine inhalf_any g h j w hS ?_
 rcases qn_cases g with ⟨q,hq,hg,_⟩ | ⟨hn,_⟩
 ·obtain⟨i0,i1,rfl⟩:=hi q hq hg
  unfold inQ at hq
  unfold cnt at i1
  unfold off
  rcases hk with rfl | rfl | rfl <;> simp at i1 ⊢ <;> omega
 ·exact .inl hn
theorem region_any(g:Gg)(h:Int)(w:World)(hS:i64 g.S):Calls Tryz.prog 125 #[.agg (gA g),.int .i64 h] w fun e w'=>e=.returned (.tuple #[.int .i64 (pl g 4 h 0),.int .i64 (plE g 4 h 0)])∧Below w.heap.size w w':=by
 have HI:=Lib.hid (fun j hj w=>inhalf_pl g 4 h 0 j w hS (by simp) hj)
 obtain⟨W,hW,HX⟩:=box_g w g
 have hws:=HX.out.2.1
 have c0:=HX.out.1.c0
 have c1:=HX.out.1.c1
 have c2:=HX.out.1.c2
 have c3:=HX.out.1.c3
 have c4:=HX.out.1.c4
 have c5:=HX.out.1.c5
 rcases qn_cases g with ⟨q,hq,hg,_⟩ | ⟨hn,hno⟩
 ·subst hg
  have HJ:=Lib.hid (HI.out 28 (fun p hp e=>by
   have hpq:=lay_inj e
   subst hpq
   simp[cnt,off]
   unfold inQ at hp
   omega))
  clear HI
  unfold inQ at hq
  obtain⟨hq1,hq2⟩:=hq
  generalize pl (lay q) 4 h 0=P at *
  generalize plE (lay q) 4 h 0=E at *
  dsimp only [gA,lay] at HJ
  dsimp only [gA,lay] at hW c0 c1 c2 c3 c4 c5 ⊢
  go_enter Tryz.func125,Tryz.ntmps125
  go_wp2_with (rw[←hW])
  clear hW
  refine(HJ.out _).mono ?_
  rintro _ w1 ⟨rfl,hb1⟩
  dsimp only
  go_wp2_with fail
  go_ret2
  exact⟨rfl,HX.out.2.2.trans (hb1.mono (by omega))⟩
 ·have HJ:=Lib.hid (HI.out g.J (fun p hp e=>absurd e.symm (hno p hp)))
  clear HI hn hno hS
  generalize pl g 4 h 0=P at *
  generalize plE g 4 h 0=E at *
  obtain⟨S,H,R,L,J,Z⟩:=g
  dsimp only [gA] at HJ
  dsimp only [gA] at hW c0 c1 c2 c3 c4 c5 ⊢
  go_enter Tryz.func125,Tryz.ntmps125
  go_wp2_with (rw[←hW])
  clear hW
  refine(HJ.out _).mono ?_
  rintro _ w1 ⟨rfl,hb1⟩
  dsimp only
  go_wp2_with fail
  go_ret2
  exact⟨rfl,HX.out.2.2.trans (hb1.mono (by omega))⟩
end Gm
namespace Vl
open Go.RowKit Dk Gm
def alB(c:Int):Bool:=decide (1≤c) && decide (c≤2)
theorem allowed_any(c:Int)(w:World):Calls Tryz.prog 112 #[.int .i64 c] w fun e w'=>e=.returned (.bool (alB c))∧w=w':=by
 unfold alB
 by_cases h1:1≤c
 ·rw[decide_eq_true h1]
  go_enter Tryz.func112,Tryz.ntmps112
  go_wp2_with fail
  go_ret
  exact⟨rfl,rfl⟩
 ·rw[decide_eq_false h1]
  go_enter Tryz.func112,Tryz.ntmps112
  go_wp2_with fail
  go_ret
  exact⟨rfl,rfl⟩
def okQ(n:Nat):Bool:=decide (inQ (fsq n))
theorem geo_yes{n:Nat}(h:okQ n=true):geo (fsq n)=lay (fsq n)∧er (fsq n)=0:=by
 have:inQ (fsq n):=of_decide_eq_true h
 exact⟨geo_in this,er_in this⟩
def lyB(n m:Nat)(C:Nat→Wr):Bool:=formedB n m C && okQ n
def lyG(n m:Nat)(C:Nat→Wr):Gg:=if formedB n m C then geo (fsq n) else zG
theorem results_2b{tmps:Array Value}{w:World}{B:Nat}{g:Gg}{e:Bool}{fn:Func}{s r:Nat}(hf:fn.results=#[.cell s 69,.tmp r])(h4:tmps.getD s undef=.pointer (some ⟨B,0,none⟩))(h5:tmps.getD r undef=.bool e)
  (kV:w.heap[B]?=some (.cells (gA g) 69 (0,0))):(results fn tmps).run Tryz.prog w=.ok (.tuple #[.agg (gA g),.bool e]) w:=by
 have h4':tmps[s]?.getD undef=.pointer (some ⟨B,0,none⟩):=by simpa using h4
 have h5':tmps[r]?.getD undef=.bool e:=by simpa using h5
 have hv:=run_loadVar_row (P:=Tryz.prog) w B 69 69 (gA g) (0,0) _ kV undG rfl (sizeG g)
 simp[results,hf,h4',h5',asAddr,hv]
theorem box_dg(w:World)(l:Array Value):∃W,W=(w.alloc (.cells l 34)).alloc (.cells (gA zG) 69)∧Below w.heap.size w W∧W.heap.size=w.heap.size+2∧
  W.heap[w.heap.size]?=some (.cells l 34 (0,0))∧W.heap[w.heap.size+1]?=some (.cells (gA zG) 69 (0,0)):=by
 refine⟨_,rfl,((Below.refl _ _).alloc (Nat.le_refl _) _).alloc (by simp) _,by simp,(Below.heap_alloc _ _ _ (by simp)).trans (heap_alloc_new w _),?_⟩
 have:=heap_alloc_new (w.alloc (.cells l 34)) (.cells (gA zG) 69)
 rwa [World.size_alloc] at this
theorem layout_any(sa ca:Option Addr)(n sc m cc g:Nat)(C:Nat→Wr)(f:Int)(d:Bool)(w:World)(hn:n≤140737488355328)(hm:m≤140737488355328)(hc:Lay w w.heap.size g ca m cc 129 (fun i=>wrV (C i))) :
  Calls Tryz.prog 127 #[.agg #[.slice sa n sc,.slice ca m cc,.int .i64 f,.bool d]] w fun e w'=>e=.returned (.tuple #[.agg (gA (lyG n m C)),.bool (lyB n m C)])∧Below w.heap.size w w':=by
 obtain⟨W,hW,hB0,hs0,hd0,hg0⟩:=box_dg w #[.slice sa n sc,.slice ca m cc,.int .i64 f,.bool d]
 have HF:=Lib.hid (Formed_any sa ca n sc m cc g C f d W hn hm ((hc.below hB0).more hB0.size))
 have HS:=Lib.hid (fun w'=>fors_any (n:Int) w' (by constructor <;> omega))
 clear hc
 unfold lyG lyB
 generalize formedB n m C=z at *
 cases z with
 | false=>
  dsimp only [gA,zG] at hW
  go_enter Tryz.func127,Tryz.ntmps127
  go_wp2_with (rw[←hW])
  clear hW HS
  refine HF.out.mono ?_
  rintro _ w1 ⟨rfl,hb1⟩
  have hg1:=(hb1.block (w.heap.size+1) (by omega)).trans hg0
  dsimp only
  go_wp2_with (refine wpList_store_row rfl 69 (.tmp 2) (.tmp 9) rfl (w.heap.size+1) (gA zG) rfl rfl 69 _ hg1 (sizeG _) rfl (allG _) ?_; simp only[Act.put])
  refine bodyPost_ret (results_2b (B:=w.heap.size+1) (g:=zG) rfl rfl rfl (setRow_heap _ _ _ _ _ _ hg1)) rfl ?_
  exact⟨rfl,below_row (hB0.trans (hb1.mono hB0.size)) (Nat.le_succ _) _⟩
 | true=>
  obtain⟨G,hG⟩:∃G,G=geo (fsq n):=⟨_,rfl⟩
  have hZ:(er (fsq (n:Int)) == 0)=okQ n:=by
   unfold okQ er
   by_cases h:inQ (fsq n)
   ·rw[if_pos h,decide_eq_true h]; rfl
   ·rw[if_neg h,decide_eq_false h]; rfl
  rw[←hG] at HS
  simp only[if_true,Bool.true_and]
  rw[←hG,←hZ]
  clear hG hZ
  generalize er (fsq (n:Int))=E at HS ⊢
  obtain⟨g1,g2,g3,g4,g5,g6⟩:=G
  have c0:=fun w' (hb:Below W.heap.size W w')=>cell_of_row w' w.heap.size 0 _ _ _ ((hb.block w.heap.size (by omega)).trans hd0)
  have C0:=Lib.hid c0
  clear c0
  dsimp only [gA,zG] at hW HS
  go_enter Tryz.func127,Tryz.ntmps127
  go_wp2_with (rw[←hW])
  clear hW
  refine HF.out.mono ?_
  rintro _ w1 ⟨rfl,hb1⟩
  have c1:=C0.out w1 hb1
  have c2:w1.cell? ⟨w.heap.size,0,none⟩=some (.slice sa n sc):=by rw[c1]; rfl
  clear c1
  dsimp only
  go_wp2_with fail
  refine(HS.out w1).mono ?_
  rintro _ w2 ⟨rfl,hb2⟩
  have hB2:=hB0.trans ((hb1.trans (hb2.mono hb1.size)).mono hB0.size)
  have hg2:=(hb2.block (w.heap.size+1) (by have:=hb1.size; omega)).trans ((hb1.block (w.heap.size+1) (by omega)).trans hg0)
  have hs2:w.heap.size+1 < w2.heap.size:=by have:=hb1.size; have:=hb2.size; omega
  have HR:=Lib.hid ((((Below.refl (w.heap.size+2) w2).alloc hs2 (.cells (gA ⟨g1,g2,g3,g4,g5,g6⟩) 69)).block (w.heap.size+1) (by omega)).trans hg2)
  have HB:=Lib.hid (hB2.alloc (by omega) (.cells (gA ⟨g1,g2,g3,g4,g5,g6⟩) 69))
  clear hb1 hb2 hB2 hg2 hg0 hd0 C0 HF HS c2
  dsimp only
  go_wp2_with (refine wpList_store_row rfl 69 (.tmp 2) (.tmp 17) rfl (w.heap.size+1) (gA ⟨g1,g2,g3,g4,g5,g6⟩) rfl rfl 69 _ HR.out (sizeG _) rfl (allG _) ?_; simp only[Act.put])
  refine bodyPost_ret (results_2b (B:=w.heap.size+1) (g:=⟨g1,g2,g3,g4,g5,g6⟩) rfl rfl rfl (setRow_heap _ _ _ _ _ _ HR.out)) rfl ?_
  exact⟨rfl,below_row HB.out (Nat.le_succ _) _⟩
end Vl
namespace Vl
open Go.RowKit Dk Gm Eqb
def two(x y:Int):Array Value:=#[.int .i64 x,.int .i64 y]
theorem eq_two(x y u v:Int)(w:World):(Op.equalIn 10000 38 (.agg #[.int .i64 x,.int .i64 y]) (.agg #[.int .i64 u,.int .i64 v])).run Tryz.prog w=.ok ((x == u) && (y == v)) w:=by
 obtain⟨i,hi⟩:∃i,Tryz.prog.info? 3=some i:=⟨_,rfl⟩
 rw[run_equalIn_array w 9999 (n:=2) (e:=3) _ _ (by kernel_rfl) hi,show Tryz.prog.cellsOf 3=1 by kernel_rfl]
 rw[eqItems_any (k:=.i64) (by kernel_rfl) (by kernel_rfl) 9998 _ _ (fun i=>if i=0 then x else y) (fun i=>if i=0 then u else v) w _ fun i hi=>by
  have hi':i < 2:=by simpa using hi
  obtain rfl | rfl:i=0∨i=1:=by omega
  ·exact⟨rfl,rfl⟩
  ·exact⟨rfl,rfl⟩]
 show Result.ok ((List.range 2).all fun i=>(if i=0 then x else y) == (if i=0 then u else v)) w=_
 rw[show List.range 2=[0,1] from rfl]
 simp
structure Fi(w:World)(g:Gg)(x y:Int)(wr:World):Prop where
 be:Below w.heap.size w wr
 gg:wr.heap[w.heap.size]?=some (.cells (gA g) 69 (0,0))
 re:Sp.R2 wr (w.heap.size+1) 0 0
 at':Sp.R2 wr (w.heap.size+1+1) x y
theorem Fi.later{w wr w':World}{g:Gg}{x y:Int}(h:Fi w g x y wr)(hb:Below wr.heap.size wr w'):Fi w g x y w':=
 ⟨h.be.trans (hb.mono h.be.size),(hb.block _ (Array.getElem?_eq_some_iff.1 h.gg).1).trans h.gg,h.re.block (hb.block _ h.re.lt),h.at'.block (hb.block _ h.at'.lt)⟩
theorem Fi.p0{w wr:World}{g:Gg}{x y:Int}(h:Fi w g x y wr)(z:Int):Fi w g z y (wr.setCell ⟨w.heap.size+1+1,0,none⟩ (.int .i64 z)):=
 ⟨h.be.setCell (show w.heap.size≤w.heap.size+1+1 by omega) _,(heap_setCell_other _ _ _ _ (show w.heap.size≠w.heap.size+1+1 by omega)).trans h.gg,h.re.block (heap_setCell_other _ _ _ _ (show w.heap.size+1≠w.heap.size+1+1 by omega)),h.at'.s0 z⟩
theorem Fi.p1{w wr:World}{g:Gg}{x y:Int}(h:Fi w g x y wr)(z:Int):Fi w g x z (wr.setCell ⟨w.heap.size+1+1,1,none⟩ (.int .i64 z)):=
 ⟨h.be.setCell (show w.heap.size≤w.heap.size+1+1 by omega) _,(heap_setCell_other _ _ _ _ (show w.heap.size≠w.heap.size+1+1 by omega)).trans h.gg,h.re.block (heap_setCell_other _ _ _ _ (show w.heap.size+1≠w.heap.size+1+1 by omega)),h.at'.s1 z⟩
theorem fi_start(w:World)(g:Gg):∃W,W=((w.alloc (.cells (gA g) 69)).alloc (.cells #[.int .i64 0,.int .i64 0] 38)).alloc (.cells #[.int .i64 0,.int .i64 0] 38)∧Fi w g 0 0 W∧W.heap.size=w.heap.size+3:=by
 refine⟨_,rfl,⟨(((Below.refl _ _).alloc (Nat.le_refl _) _).alloc (by simp) _).alloc (by simp; omega) _,?_,?_,?_⟩,by simp⟩
 ·rw[Below.heap_alloc _ _ _ (by simp; omega),Below.heap_alloc _ _ _ (by simp),heap_alloc_new]
 ·unfold Sp.R2
  rw[Below.heap_alloc _ _ _ (by simp),←World.size_alloc w (.cells (gA g) 69),heap_alloc_new]
 ·unfold Sp.R2
  have:=heap_alloc_new ((w.alloc (.cells (gA g) 69)).alloc (.cells #[.int .i64 0,.int .i64 0] 38)) (.cells #[.int .i64 0,.int .i64 0] 38)
  rwa [World.size_alloc,World.size_alloc] at this
section
attribute [local go_sem] Sp.zvS2
theorem firsts_any(g:Gg)(w:World)(hS:i64 g.S):Calls Tryz.prog 95 #[.agg (gA g)] w fun e w'=>e=.returned (.agg #[.int .i64 (pl g 4 0 0),.int .i64 (pl g 4 1 0)])∧Below w.heap.size w w':=by
 have HR:=Lib.hid (fun h w'=>region_any g h w' hS)
 obtain⟨W,hW,hF,hs⟩:=fi_start w g
 have HF:=Lib.hid hF
 generalize h0:pl g 4 0 0=p0
 generalize h1:pl g 4 1 0=p1
 have HR0:=Lib.hid (HR.out 0)
 have HR1:=Lib.hid (HR.out 1)
 rw[h0] at HR0
 rw[h1] at HR1
 clear HR hF hS h0 h1
 generalize plE g 4 0 0=e0 at HR0
 generalize plE g 4 1 0=e1 at HR1
 obtain⟨g1,g2,g3,g4,g5,g6⟩:=g
 dsimp only [gA] at hW HR0 HR1 ⊢
 go_enter Tryz.func95,Tryz.ntmps95
 go_wp2_with (rw[←hW])
 clear hW
 go_loopw [5] (fun i wr=>∃j:Nat,j≤2∧i=.int .i64 j∧Hid (Fi w ⟨g1,g2,g3,g4,g5,g6⟩ (if 0 < j then p0 else 0) (if 1 < j then p1 else 0) wr)) (fun i _=>2 - (intOf i).toNat)
 case atStart=>exact⟨0,by omega,rfl,Lib.hid HF.out⟩
 case round=>
  obtain⟨j,hj,rfl,hR⟩:=hrel
  clear HF
  match j,hj with
  | 0,_=>
   have hF:=hR.out
   rw[if_neg (by omega),if_neg (by omega)] at hF
   have G:=hF.gg
   have c0:=cell_of_row wr w.heap.size 0 _ _ _ G
   have c1:=cell_of_row wr w.heap.size 1 _ _ _ G
   have c2:=cell_of_row wr w.heap.size 2 _ _ _ G
   have c3:=cell_of_row wr w.heap.size 3 _ _ _ G
   have c4:=cell_of_row wr w.heap.size 4 _ _ _ G
   have c5:=cell_of_row wr w.heap.size 5 _ _ _ G
   have HF:=Lib.hid hF
   clear hR HR1 hF G
   dsimp only [gA] at c0 c1 c2 c3 c4 c5
   simp at c0 c1 c2 c3 c4 c5
   go_wp2_with fail
   refine(HR0.out wr).mono ?_
   rintro _ w1 ⟨rfl,hb1⟩
   have hF1:=HF.out.later hb1
   have k0:=hF1.at'.c0
   have k1:=hF1.at'.fr 0
   have HF1:=Lib.hid hF1
   clear hF1 hb1 HF c0 c1 c2 c3 c4 c5 HR0
   dsimp only
   go_wp2_with fail
   go_roundw
   case rel=>exact⟨1,by omega,rfl,Lib.hid (HF1.out.p0 p0)⟩
   case measure=>simp[intOf]
  | 1,_=>
   have hF:=hR.out
   rw[if_pos (by omega),if_neg (by omega)] at hF
   have G:=hF.gg
   have c0:=cell_of_row wr w.heap.size 0 _ _ _ G
   have c1:=cell_of_row wr w.heap.size 1 _ _ _ G
   have c2:=cell_of_row wr w.heap.size 2 _ _ _ G
   have c3:=cell_of_row wr w.heap.size 3 _ _ _ G
   have c4:=cell_of_row wr w.heap.size 4 _ _ _ G
   have c5:=cell_of_row wr w.heap.size 5 _ _ _ G
   have HF:=Lib.hid hF
   clear hR HR0 hF G
   dsimp only [gA] at c0 c1 c2 c3 c4 c5
   simp at c0 c1 c2 c3 c4 c5
   go_wp2_with fail
   refine(HR1.out wr).mono ?_
   rintro _ w1 ⟨rfl,hb1⟩
   have hF1:=HF.out.later hb1
   have k0:=hF1.at'.c1
   have k1:=hF1.at'.fr 1
   have HF1:=Lib.hid hF1
   clear hF1 hb1 HF c0 c1 c2 c3 c4 c5 HR1
   dsimp only
   go_wp2_with fail
   go_roundw
   case rel=>exact⟨2,by omega,rfl,Lib.hid (HF1.out.p1 p1)⟩
   case measure=>simp[intOf]
  | 2,_=>
   have hF:=hR.out
   rw[if_pos (by omega),if_pos (by omega)] at hF
   have k0:=hF.at'.c0
   have k1:=hF.at'.c1
   have r0:=hF.re.c0
   have r1:=hF.re.c1
   have r2:=hF.re.fr 0
   have r3:=hF.re.fr 1
   have HF:=Lib.hid hF
   clear hR HR0 HR1 hF
   go_wp2_with fail
   refine bodyPost_ret (Sp.R2.results rfl rfl ((HF.out.re.s0 p0).s1 p1)) rfl ?_
   exact⟨rfl,((HF.out.be.setCell (show w.heap.size≤w.heap.size+1 by omega) _).setCell (show w.heap.size≤w.heap.size+1 by omega) _)⟩
  | j+3,h=>omega
end
end Vl
end Go.Proofs.YteaocagepfgfnaaGreatDoor
