import Derived.Test.YteaocagepfgfnaaGreatDoorPJDl
import Derived.RangeFuncNested
import Derived.RangeFuncBox
import Derived.RangeFuncLeaves
import Derived.Shelf.Abstract
import Derived.OwnWalkIn
import Derived.TacticsInMore
import Derived.LoopNIn
import Derived.LoopIn
import Derived.Test.YteaocagepfgfnaaGreatDoorPJSha
import Derived.DeepKeys
import Derived.Test.YteaocagepfgfnaaGreatDoorPAl
set_option maxRecDepth 100000
set_option maxHeartbeats 8000000
namespace Go.Proofs.YteaocagepfgfnaaGreatDoor
namespace Dk
open Go.RowKit Go.Shelf
attribute [local go_sem] Oper.semAt_some
section
variable {F:Fence}{n':Nat}{P:Program}
theorem wpListIn_load_mid{ops:Array Oper}{rest:List Oper}{o:Oper}{a:Act}{w:World}{Q:Exit→Act→World→Prop}(hgd:o.guard=none)(ty:TypeId)(x:Operand)(ho:o.op=.load ty x)
  (b off:Nat) (hx:a.eval x=.pointer (some ⟨b,off,none⟩)) (cs:List Value) (d:TypeDesc) (hc:w.rangeAt b off cs)
  (hu:P.underlying ty=some d) (hd:d.isRow=true) (hi:(P.info? ty).map (·.size)=some cs.length)
  (h:wpListIn F n' P ops Q rest (a.put o.dst (.agg cs.toArray)) w):wpListIn F n' P ops Q (o :: rest) a w:=by
 refine wpListIn_plain hgd fun K hK=>?_
 unfold Oper.wpIn
 refine⟨?_,?_⟩
 ·simp[Oper.about,ho]
 ·rw[Oper.semAt_plain F _ _ (by rw[ho]; intro c hc'; cases hc')]
  unfold execOp
  simp only[ho,hx,Instr.loadAt,Instr.sureAddr,Sem.run_bind,Sem.run_pure,Result.andThen_ok,run_loadVar_mid w b off ty cs d hc hu hd hi]
  exact hK _ _ h
theorem wpListIn_store_row{ops:Array Oper}{rest:List Oper}{o:Oper}{a:Act}{w:World}{Q:Exit→Act→World→Prop}(hgd:o.guard=none)(ty:TypeId)(x y:Operand)(ho:o.op=.store ty x y)
  (g:Nat) (cells:Array Value) (hx:a.eval x=.pointer (some ⟨g,0,none⟩)) (hy:a.eval y=.agg cells)
  (t:TypeId) (old:Array Value) (hg:w.heap[g]?=some (.cells old t (0,0))) (hi:(P.info? ty).map (·.size)=some cells.size)
  (hold:old.size=cells.size) (h1:cells.all (·.oneCell')=true)
  (h:wpListIn F n' P ops Q rest (a.put o.dst undef) (w.setRow g cells)):wpListIn F n' P ops Q (o :: rest) a w:=by
 refine wpListIn_plain hgd fun K hK=>?_
 unfold Oper.wpIn
 refine⟨?_,?_⟩
 ·simp[Oper.about,ho]
 ·rw[Oper.semAt_plain F _ _ (by rw[ho]; intro c hc'; cases hc')]
  unfold execOp
  simp only[ho,hx,hy,Instr.storeAt,Instr.sureAddr,Sem.run_bind,Sem.run_pure,Result.andThen_ok,run_storeVar_row w g t ty old cells hg hi hold h1]
  exact hK _ _ h
end
def down(m k:Nat):List Nat:=(List.range k).map fun j=>m - 1 - j
theorem down_succ(m k:Nat):down m (k+1)=down m k ++ [m - 1 - k]:=by simp[down,List.range_succ]
theorem down_length(m k:Nat):(down m k).length=k:=by simp[down]
theorem back1_in(F:Fence)(n:Nat)(h8:F.fn 177)(hro:F.round=none)(hn:1≤n)(l Bs n₀ b off m cap:Nat)(C:Nat→Wr)(hm:m * 136≤140737488355328)(hm0:1≤m)(hb:b < n₀)(J Jx:List Nat→World→Prop)
  (hY:∀pre x W,J pre W→pre.length < m→YieldAt F (n - 1) Tryz.prog l #[.int .i64 (x:Nat),.agg (wrV (C x)).toArray] W fun e W'=>
   (e=.returned (.bool true)∧J (pre ++ [x]) W'∧Below n₀ W W')∨(e=.returned (.bool false)∧Jx (pre ++ [x]) W'))
  (W:World) (hBs:W.cell? ⟨Bs,0,none⟩=some (.slice (some ⟨b,off,none⟩) m cap)) (hBn:Bs < n₀) (hc:∀j,j < m→W.rangeAt b (off+j * 129) (wrV (C j))) (h0:J [] W) :
  CallsIn F n Tryz.prog 177 #[.func (.yield l) #[] #[],.pointer (some ⟨Bs,0,none⟩)] W fun e W'=>(∃v,e=.returned v)∧
   ((∃ys,ys=down m m∧J ys W')∨(∃pre,(∃k,k≤m∧pre=down m k)∧Jx pre W')):=by
 have HCC:=Lib.hid hc
 clear hc
 refine callsIn_of_wp Tryz.func177 rfl h8 ?_ hro
 simp only[Tryz.ntmps177,List.size_toArray,List.length_cons,List.length_nil,Nat.reduceAdd,Nat.reduceSub,Array.replicate_succ,Array.replicate_zero,List.push_toArray,List.append_toArray,List.nil_append,List.cons_append]
 gi_wp2
 gi_loopw [3] (fun i wr=>∃k:Nat,k≤m∧i=.int .i64 ((m:Int) - 1 - k)∧J (down m k) wr∧Below n₀ W wr)
  (fun i _=>(intOf i+1).toNat)
 case atStart=>exact⟨0,Nat.zero_le _,by simp,h0,Below.refl _ _⟩
 case round=>
  obtain⟨k,hk,rfl,hJs,hnx⟩:=hrel
  have cB:=(hnx.cell (p:=⟨Bs,0,none⟩) hBn).trans hBs
  by_cases hlt:k < m
  ·obtain⟨x,hx⟩:∃x:Nat,x=m - 1 - k:=⟨_,rfl⟩
   have hxm:x < m:=by omega
   obtain⟨fn,tmps,assign,body,hy,hR⟩:=hY _ x wr hJs (by rw[down_length]; exact hlt)
   try dsimp only at hy
   have hrow:wr.rangeAt b (off+x * 129) (wrV (C x)):=fun i v hv=>(hnx.cell (p:=⟨b,off+x * 129+i,none⟩) hb).trans (HCC.out x hxm i v hv)
   have hi:(m:Int) - 1 - k=(x:Int):=by omega
   rw[hi]
   have hx0:(0:Int)≤(x:Int):=by omega
   have hxi:(x:Int) < (m:Int):=by omega
   have HX:=Lib.hid hx
   clear hx
   generalize hX:wrV (C x)=X at hy hrow
   have hXs:(Tryz.prog.info? 108).map (·.size)=some X.length:=by rw[←hX]; exact size_wr _
   gi_wp2_with (refine wpListIn_load_mid rfl 108 (.tmp 15) rfl b (off+x * 129) rfl X _ (by exact hrow) Tryz.underlying108 rfl hXs ?_; simp only[Act.put,aA])
   refine hR.mono ?_
   rintro e W3 (⟨rfl,hJ3,hk3⟩ | ⟨rfl,hJx3⟩)
   ·gi_wp2
    go_roundw
    case rel=>exact⟨k+1,by omega,by go_num,by rw[down_succ,←HX.out]; exact hJ3,hnx.trans hk3⟩
    case measure=>first | (simp[intOf]; done) | (simp[intOf]; omega)
   ·gi_wp2
    refine bodyPost_ret (results_none rfl _ _ _) rfl ?_
    exact⟨⟨_,rfl⟩,.inr ⟨_,⟨k+1,by omega,by rw[down_succ,←HX.out]⟩,hJx3⟩⟩
  ·obtain rfl:k=m:=by omega
   rw[show(k:Int) - 1 - k = -1 by omega]
   gi_wp2
   go_end0
   exact⟨⟨_,rfl⟩,.inl ⟨_,rfl,hJs⟩⟩
theorem back1_nil_in(F:Fence)(n:Nat)(h8:F.fn 177)(hro:F.round=none)(l Bs:Nat)(ao:Option Addr)(cap:Nat)(J:List Nat→World→Prop)(W:World)(hBs:W.cell? ⟨Bs,0,none⟩=some (.slice ao 0 cap))(h0:J [] W) :
  CallsIn F n Tryz.prog 177 #[.func (.yield l) #[] #[],.pointer (some ⟨Bs,0,none⟩)] W fun e W'=>(∃v,e=.returned v)∧J [] W':=by
 refine callsIn_of_wp Tryz.func177 rfl h8 ?_ hro
 simp only[Tryz.ntmps177,List.size_toArray,List.length_cons,List.length_nil,Nat.reduceAdd,Nat.reduceSub,Array.replicate_succ,Array.replicate_zero,List.push_toArray,List.append_toArray,List.nil_append,List.cons_append]
 gi_wp2
 gi_loopw [3] (fun i wr=>i=.int .i64 (-1)∧J [] wr) (fun _ _=>0)
 case atStart=>exact⟨rfl,h0⟩
 case round=>
  obtain⟨rfl,hJs⟩:=hrel
  gi_wp2
  go_end0
  exact⟨⟨_,rfl⟩,hJs⟩
theorem backward_any(ao:Option Addr)(m cap:Nat)(w:World) :
  Calls Tryz.prog 172 #[.slice ao m cap] w fun e w'=>e=.returned (.func (.func 177) #[] #[.pointer (some ⟨w.heap.size,0,none⟩)])∧w'=w.alloc (.cells #[.slice ao m cap] 32):=by
 go_enter Tryz.func172,Tryz.ntmps172
 go_wp2_with fail
 go_ret
 exact⟨rfl,rfl⟩
theorem back_stops(F:Fence)(n:Nat)(h8:F.fn 177)(hro:F.round=none)(hn:1≤n)(Bs n₀ g:Nat)(ao:Option Addr)(m cap:Nat)(C:Nat→Wr)(hm:m * 136≤140737488355328)(w:World)(hBs:Bs < w.heap.size)(hBn:Bs < n₀)(hn₀:n₀≤w.heap.size)
  (hc:w.cell? ⟨Bs,0,none⟩=some (.slice ao m cap)) (hl:Lay w n₀ g ao m cap 129 (fun i=>wrV (C i))) :
  SeqStopsK F n Tryz.prog 177 #[.pointer (some ⟨Bs,0,none⟩)] (fun x:Nat=>#[Value.int .i64 (x:Nat),.agg (wrV (C x)).toArray]) (Below n₀) (fun ys=>ys=down m m) (fun pre=>∃k,k≤m∧pre=down m k) m w:=fun l J Jx W hW _ _ hY h0=>by
 have hc':=(hW.cell (p:=⟨Bs,0,none⟩) hBs).trans hc
 rcases (hl.below (hW.mono hn₀)).rows with h | ⟨b,off,e,hb,_,hr⟩
 ·subst h
  exact(back1_nil_in F n h8 hro l Bs ao cap J W hc' h0).mono fun e W' ⟨he,hj⟩=>⟨he,.inl ⟨_,rfl,hj⟩⟩
 ·subst e
  rcases Nat.eq_zero_or_pos m with h | h
  ·subst h
   exact(back1_nil_in F n h8 hro l Bs _ cap J W hc' h0).mono fun e W' ⟨he,hj⟩=>⟨he,.inl ⟨_,rfl,hj⟩⟩
  ·exact back1_in F n h8 hro hn l Bs n₀ b off m cap C hm h hb J Jx hY W hc' hBn hr h0
end Dk
namespace Dk
open Go.RowKit Go.Shelf
attribute [local go_sem] Oper.semAt_some zv65 zv29
attribute [local go_sem] zc29
def lastW(C:Nat→Wr)(a:Int):Nat→Option Nat
 | 0=>none
 | j+1=>if (C j).place=a then some j else lastW C a j
def rdOk(n m:Nat)(C:Nat→Wr)(a:Int):Bool:=formedB n m C && hasB n a
def rdE(n m:Nat)(S:Nat→Sec)(C:Nat→Wr)(d:Bool)(a:Int):Int:=
 if rdOk n m C a then if d then 3 else match lastW C a m with
  | some _=>0
  | none=>if (S a.toNat).noRead then 2 else 0
 else 1
def rdV(n m:Nat)(S:Nat→Sec)(C:Nat→Wr)(d:Bool)(a:Int):Nat→Int:=
 if rdE n m S C d a=0 then match lastW C a m with
  | some j=>(C j).data
  | none=>(S a.toNat).data
 else fun _=>0
def Reads(w:World)(n m:Nat)(S:Nat→Sec)(C:Nat→Wr)(d:Bool)(a:Int)(e:Ending)(w':World):Prop:=
 e=.returned (.tuple #[.agg (bl (rdV n m S C d a)).toArray,.int .i64 (rdE n m S C d a)])∧Below w.heap.size w w'
theorem size_bl'(f:Nat→Int):(Tryz.prog.info? 47).map (·.size)=some (bl f).toArray.size:=by rw[List.size_toArray]; exact sB f
theorem bl_all(f:Nat→Int):(bl f).toArray.all (·.oneCell')=true:=all_oneCell_toArray (bl_one f)
theorem built29:Tryz.prog.built 47 []=some (bl fun _=>0).toArray:=by kernel_rfl
theorem q_load_mid{P:Program}{ops:Array Oper}{C:World→Prop}{a:Act}{o:Oper}{rest:List Oper}{Q:Act→Prop}(ty:TypeId)(x:Operand)(ho:o.op=.load ty x)(hw:Region.wanted o (yielded ops a.tmps)=true)(b off:Nat)(hx:a.eval x=.pointer (some ⟨b,off,none⟩))(cs:List Value)(d:TypeDesc)
  (hc:∀w,C w→w.rangeAt b off cs) (hu:P.underlying ty=some d) (hd:d.isRow=true) (hi:(P.info? ty).map (·.size)=some cs.length) (h:wpQuiet P ops C Q rest (a.put o.dst (.agg cs.toArray))):wpQuiet P ops C Q (o :: rest) a:=
 q_val (.agg cs.toArray) hw (fun w hw=>by
  unfold execOp
  simp only[ho,hx,Instr.loadAt,Instr.sureAddr,Sem.run_bind,Sem.run_pure,Result.andThen_ok,run_loadVar_mid w b off ty cs d (hc w hw) hu hd hi]) h
theorem row_kept{A B:World}{k:Nat}{cs:Array Value}{t:TypeId}{fr:Nat × Nat}{row:Option Nat}(h:A.heap[k]?=some (.cells cs t fr))(hg:A.grownBy B row)(hr:∀r,row=some r→∃o:Obj,A.heap[r]?=some o∧o.isCells=false):B.heap[k]?=some (.cells cs t fr):=
 (hg.block k (Array.getElem?_eq_some_iff.1 h).1 (fun e=>by
  obtain⟨o,ho,hn⟩:=hr k e.symm
  rw[h] at ho
  injection ho with ho
  subst ho
  cases hn)).trans h
theorem lastW_none{C:Nat→Wr}{p:Int}{m:Nat}(h:∀j,j < m→(C j).place≠p):lastW C p m=none:=by
 induction m with
 | zero=>rfl
 | succ m ih=>rw[lastW,if_neg (h m (by omega)),ih (fun j hj=>h j (by omega))]
theorem lastW_skip{C:Nat→Wr}{p:Int}{x:Nat}(hx:(C x).place=p):∀m,x < m→(∀j,x < j→j < m→(C j).place≠p)→lastW C p m=some x:=by
 intro m
 induction m with
 | zero=>intro h; omega
 | succ m ih=>
  intro h hj
  by_cases e:x=m
  ·subst e; rw[lastW,if_pos hx]
  ·rw[lastW,if_neg (hj m (by omega) (by omega))]
   exact ih (by omega) (fun j h1 h2=>hj j h1 (by omega))
theorem lastW_some{C:Nat→Wr}{p:Int}{m k x:Nat}{ini:List Nat}(hk:k≤m)(e1:down m k=ini ++ [x])(e2:∀y ∈ ini,(C y).place≠p)(e3:(C x).place=p):lastW C p m=some x:=by
 obtain⟨k',rfl⟩:∃k',k=k'+1:=by
  cases k with
  | zero=>simp[down] at e1
  | succ k'=>exact⟨k',rfl⟩
 rw[down_succ] at e1
 obtain⟨rfl,e5⟩:=List.append_inj' e1 rfl
 obtain rfl:m - 1 - k'=x:=by simpa using e5
 refine lastW_skip e3 m (by omega) (fun j h1 h2=>e2 j ?_)
 simp only[down,List.mem_map,List.mem_range]
 exact⟨m - 1 - j,by omega,by omega⟩
theorem res_put{w w1:World}{B E:Nat}{t te:TypeId}{old:Array Value}{v:Value}(hb:Below w.heap.size w w1)(kV:w1.heap[B]?=some (.cells old t (0,0)))(hB:w.heap.size≤B)(kE:Boxed w1 E te v)(hne:E≠B)(cells:Array Value) :
  ∃w2,w2=w1.setRow B cells∧w2.heap[B]?=some (.cells cells t (0,0))∧Boxed w2 E te v∧Below w.heap.size w w2:=
 ⟨_,rfl,setRow_heap w1 B _ _ t _ kV,(setRow_other w1 B E cells hne).trans kE,hb.trans ⟨rfl,rfl,rfl,by simp,fun k hk=>setRow_other w1 B k cells (by omega)⟩⟩
theorem res_end{w w1:World}{B E:Nat}{t te:TypeId}{cs:Array Value}{v:Value}(hb:Below w.heap.size w w1)(kV:w1.heap[B]?=some (.cells cs t (0,0)))(kE:Boxed w1 E te v)(hE:w.heap.size≤E)(hne:B≠E)(u:Value) :
  (w1.setCell ⟨E,0,none⟩ u).heap[B]?=some (.cells cs t (0,0))∧Boxed (w1.setCell ⟨E,0,none⟩ u) E te u∧Below w.heap.size w (w1.setCell ⟨E,0,none⟩ u):=
 ⟨(Below.heap_setCell _ _ _ _ hne).trans kV,Boxed.set u kE,hb.setCell hE u⟩
theorem results_rd{tmps:Array Value}{w:World}{B E:Nat}{D:Nat→Int}{e:Int}{fn:Func}(hf:fn.results=#[.cell 4 47,.cell 5 48])(h4:tmps.getD 4 undef=.pointer (some ⟨B,0,none⟩))(h5:tmps.getD 5 undef=.pointer (some ⟨E,0,none⟩))
  (kV:w.heap[B]?=some (.cells (bl D).toArray 47 (0,0))) (kE:Boxed w E 48 (.int .i64 e)):(results fn tmps).run Tryz.prog w=.ok (.tuple #[.agg (bl D).toArray,.int .i64 e]) w:=by
 have h4':tmps[4]?.getD undef=.pointer (some ⟨B,0,none⟩):=by simpa using h4
 have h5':tmps[5]?.getD undef=.pointer (some ⟨E,0,none⟩):=by simpa using h5
 have hv:=run_loadVar_row (P:=Tryz.prog) w B 47 47 (bl D).toArray (0,0) _ kV und29 rfl (size_bl' D)
 have he:(loadVar 48 ⟨E,0,none⟩).run Tryz.prog w=.ok (.int .i64 e) w:=by
  have hc:=Boxed.cell kE
  simp[loadVar,go_sem,hc]
 simp[results,hf,h4',h5',asAddr,hv,he]
theorem box_below{W W':World}{B:Nat}{t:TypeId}{v:Value}(h:Boxed W B t v)(hb:Below W.heap.size W W'):Boxed W' B t v:=(hb.block B (Boxed.lt h)).trans h
theorem read_any(g:Pl)(sa ca:Option Addr)(n sc m cc:Nat)(S:Nat→Sec)(C:Nat→Wr)(f:Int)(d:Bool)(a:Int)(w:World)(h:Has w g sa ca n sc m cc S C f d) :
  Calls Tryz.prog 160 #[.pointer (some ⟨g.b,g.o,none⟩),.int .i64 a] w (Reads w n m S C d a):=by
 have HH:=Lib.hid h
 clear h
 refine(callsIn_wide (n:=10)).1 ?_
 refine callsIn_of_wp_marks Tryz.func160 rfl trivial ?_
 refine wpIn_wide.2 ?_
 simp only[Tryz.ntmps160,List.size_toArray,List.length_cons,List.length_nil,Nat.reduceAdd,Nat.reduceSub,Array.replicate_succ,Array.replicate_zero,List.push_toArray,List.append_toArray,List.nil_append,List.cons_append]
 go_wp2_with fail
 generalize hW:((w.alloc (.cells #[.int .i64 a] 3)).alloc (.cells (bl fun _=>0).toArray 47)).alloc (.cells #[.int .i64 0] 48)=W
 have hb0:Below w.heap.size w W:=by rw[←hW]; exact(((Below.refl _ _).alloc (Nat.le_refl _) _).alloc (by simp) _).alloc (by simp; omega) _
 have hsW:W.heap.size=w.heap.size+3:=by rw[←hW]; simp
 have hbA:Boxed W w.heap.size 3 (.int .i64 a):=by rw[←hW]; exact((Boxed.new w _ _).alloc _).alloc _
 have hbV:W.heap[w.heap.size+1]?=some (.cells (bl fun _=>0).toArray 47 (0,0)):=by
  rw[←hW,Below.heap_alloc _ _ _ (by simp)]
  have:=heap_alloc_new (w.alloc (.cells #[.int .i64 a] 3)) (.cells (bl fun _=>0).toArray 47)
  rwa [World.size_alloc] at this
 have hbE:Boxed W (w.heap.size+1+1) 48 (.int .i64 0):=by
  rw[←hW]
  have:=Boxed.new ((w.alloc (.cells #[.int .i64 a] 3)).alloc (.cells (bl fun _=>0).toArray 47)) 48 (.int .i64 0)
  simpa using this
 clear hW
 have hHW:=HH.out.below hb0
 have hgW:=hHW.bx.lt
 have HC:=Lib.hid (fun(w':World) (hw':Below W.heap.size W w')=>hHW.below hw')
 have h47:=hHW.n47
 refine wp_region_quiet (C:=fun w'=>Below W.heap.size W w') (by kernel_rfl) (by kernel_rfl) ⟨rfl,rfl,rfl,Nat.le_refl _,fun _ _=>rfl⟩ ?_
 refine q_val (.pointer (some ⟨g.b,g.o,none⟩)) rfl (fun w' hw'=>by go_simp) ?_
 simp only[Act.put,aA]
 refine q_call 120 _ (.bool (formedB n m C)) rfl (fun w'=>by go_simp) (fun w' hw'=>(HC.out w' hw').formed.mono fun e w'' ⟨he,hb⟩=>⟨he,hw'.trans (hb.mono hw'.size)⟩) ?_
 simp only[Act.put,aA]
 cases hfm:formedB n m C with
 | false=>
  refine q_val (.bool true) rfl (fun w' hw'=>by go_simp) ?_
  simp only[Act.put,aA]
  refine q_val (.bool true) rfl (fun w' hw'=>by go_simp) ?_
  simp only[Act.put,aA]
  refine BigFrame.wpQuiet_skip rfl ?_
  simp only[Act.put,aA]
  refine BigFrame.wpQuiet_skip rfl ?_
  simp only[Act.put,aA]
  refine BigFrame.wpQuiet_skip rfl ?_
  simp only[Act.put,aA]
  refine BigFrame.wpQuiet_skip rfl ?_
  simp only[Act.put,aA]
  refine BigFrame.wpQuiet_skip rfl ?_
  simp only[Act.put,aA]
  refine BigFrame.wpQuiet_skip rfl ?_
  simp only[Act.put,aA]
  refine q_val (.bool true) rfl (fun w' hw'=>by go_simp) ?_
  simp only[Act.put,aA]
  refine wpQuiet_nil ?_
  intro w1 hw1
  have hok:rdOk n m C a=false:=by unfold rdOk; rw[hfm]; rfl
  have h1:rdE n m S C d a=1:=by unfold rdE; rw[hok]; rfl
  have h2:rdV n m S C d a=fun _=>0:=by unfold rdV; rw[h1]; rfl
  have H12:=Lib.hid (And.intro h1 h2)
  clear hok h1 h2 HC
  have kV:=(hw1.block (w.heap.size+1) (by omega)).trans hbV
  have kE:=box_below hbE hw1
  have hBw:=hb0.trans (hw1.mono (by omega))
  go_wp2_with (first
   | (refine wpList_buildTo rfl 47 #[] rfl _ rfl (bl fun _=>0).toArray built29 ?_; simp only[Act.put,aA])
   | (refine wpList_store_row rfl 47 (.tmp 4) (.tmp 19) rfl (w.heap.size+1) (bl fun _=>0).toArray rfl rfl 47 _ kV (size_bl' _) rfl (bl_all _) ?_; simp only[Act.put]; obtain⟨w2,hw2,kV2,kE2,hB2⟩:=res_put hBw kV (by omega) kE (by omega) (bl fun _=>0).toArray; rw[←hw2]; have cE2:=kE2.cell; have fE2:=kE2.frozen; clear hw2))
  obtain⟨kV3,kE3,hB3⟩:=res_end hB2 kV2 kE2 (by omega) (by omega) (.int .i64 1)
  exact⟨_,results_rd rfl rfl rfl kV3 kE3,by rw[H12.out.1,H12.out.2],hB3⟩
 | true=>
  refine q_val (.bool false) rfl (fun w' hw'=>by go_simp) ?_
  simp only[Act.put,aA]
  refine q_val (.bool false) rfl (fun w' hw'=>by go_simp) ?_
  simp only[Act.put,aA]
  refine q_val (.pointer (some ⟨g.b,g.o,none⟩)) rfl (fun w' hw'=>by go_simp) ?_
  simp only[Act.put,aA]
  refine q_val (.pointer (some ⟨g.b,g.o,none⟩)) rfl (fun w' hw'=>by go_simp) ?_
  simp only[Act.put,aA]
  refine q_val (.agg #[.slice sa n sc,.slice ca m cc,.int .i64 f,.bool d]) rfl (fun w' hw'=>by have hH:=HC.out w' hw'; have k0:=hH.bx.c0; have k1:=hH.bx.c1; have k2:=hH.bx.c2; have k3:=hH.bx.c3; go_simp) ?_
  simp only[Act.put,aA]
  refine q_val (.int .i64 a) rfl (fun w' hw'=>by have k0:=(box_below hbA hw').cell; go_simp) ?_
  simp only[Act.put,aA]
  refine q_call 121 _ (.bool (hasB n a)) rfl (fun w'=>by go_simp) (fun w' hw'=>(has_any sa ca n sc m cc f a d w' h47.1).mono fun e w'' ⟨he,hb⟩=>⟨he,hw'.trans (hb.mono hw'.size)⟩) ?_
  simp only[Act.put,aA]
  cases hha:hasB n a with
  | false=>
   refine q_val (.bool true) rfl (fun w' hw'=>by go_simp) ?_
   simp only[Act.put,aA]
   refine q_val (.bool true) rfl (fun w' hw'=>by go_simp) ?_
   simp only[Act.put,aA]
   refine wpQuiet_nil ?_
   intro w1 hw1
   have hok:rdOk n m C a=false:=by unfold rdOk; rw[hfm,hha]; rfl
   have h1:rdE n m S C d a=1:=by unfold rdE; rw[hok]; rfl
   have h2:rdV n m S C d a=fun _=>0:=by unfold rdV; rw[h1]; rfl
   have H12:=Lib.hid (And.intro h1 h2)
   clear hok h1 h2 HC
   have kV:=(hw1.block (w.heap.size+1) (by omega)).trans hbV
   have kE:=box_below hbE hw1
   have hBw:=hb0.trans (hw1.mono (by omega))
   go_wp2_with (first
    | (refine wpList_buildTo rfl 47 #[] rfl _ rfl (bl fun _=>0).toArray built29 ?_; simp only[Act.put,aA])
    | (refine wpList_store_row rfl 47 (.tmp 4) (.tmp 19) rfl (w.heap.size+1) (bl fun _=>0).toArray rfl rfl 47 _ kV (size_bl' _) rfl (bl_all _) ?_; simp only[Act.put]; obtain⟨w2,hw2,kV2,kE2,hB2⟩:=res_put hBw kV (by omega) kE (by omega) (bl fun _=>0).toArray; rw[←hw2]; have cE2:=kE2.cell; have fE2:=kE2.frozen; clear hw2))
   obtain⟨kV3,kE3,hB3⟩:=res_end hB2 kV2 kE2 (by omega) (by omega) (.int .i64 1)
   exact⟨_,results_rd rfl rfl rfl kV3 kE3,by rw[H12.out.1,H12.out.2],hB3⟩
  | true=>
   refine q_val (.bool false) rfl (fun w' hw'=>by go_simp) ?_
   simp only[Act.put,aA]
   refine q_val (.bool false) rfl (fun w' hw'=>by go_simp) ?_
   simp only[Act.put,aA]
   refine wpQuiet_nil ?_
   intro w1 hw1
   have hok:rdOk n m C a=true:=by unfold rdOk; rw[hfm,hha]; rfl
   obtain⟨ha0,ha1⟩:=hasB_nat hha
   obtain⟨p,rfl⟩:∃p:Nat,a=p:=⟨a.toNat,by omega⟩
   have hpn:p < n:=by omega
   clear hfm hha
   have hH1:=HC.out w1 hw1
   clear HC
   have kV:=(hw1.block (w.heap.size+1) (by omega)).trans hbV
   have kE:=box_below hbE hw1
   have kA:=box_below hbA hw1
   have hBw:=hb0.trans (hw1.mono (by omega))
   cases d with
   | true=>
    have h1:rdE n m S C true p=3:=by unfold rdE; rw[hok]; rfl
    have h2:rdV n m S C true p=fun _=>0:=by unfold rdV; rw[h1]; rfl
    have H12:=Lib.hid (And.intro h1 h2)
    clear hok h1 h2
    have c3:=hH1.bx.c3
    go_wp2_with (first
     | (refine wpList_buildTo rfl 47 #[] rfl _ rfl (bl fun _=>0).toArray built29 ?_; simp only[Act.put,aA])
     | (refine wpList_store_row rfl 47 (.tmp 4) (.tmp 24) rfl (w.heap.size+1) (bl fun _=>0).toArray rfl rfl 47 _ kV (size_bl' _) rfl (bl_all _) ?_; simp only[Act.put]; obtain⟨w2,hw2,kV2,kE2,hB2⟩:=res_put hBw kV (by omega) kE (by omega) (bl fun _=>0).toArray; rw[←hw2]; have cE2:=kE2.cell; have fE2:=kE2.frozen; clear hw2))
    obtain⟨kV3,kE3,hB3⟩:=res_end hB2 kV2 kE2 (by omega) (by omega) (.int .i64 3)
    exact⟨_,results_rd rfl rfl rfl kV3 kE3,by rw[H12.out.1,H12.out.2],hB3⟩
   | false=>
    have HOK:=Lib.hid hok
    clear hok
    have c1:=hH1.bx.c1
    have c3:=hH1.bx.c3
    go_wp2_with fail
    refine(backward_any ca m cc w1).mono ?_
    rintro _ _ ⟨rfl,rfl⟩
    dsimp only
    go_wp2_with fail
    refine(wpIn_wide (n:=10)).1 ?_
    generalize hW0:w1.alloc (.cells #[.slice ca m cc] 32)=W0
    have hb1:Below w1.heap.size w1 W0:=by rw[←hW0]; exact(Below.refl _ _).alloc (Nat.le_refl _) _
    have hcN:W0.cell? ⟨w1.heap.size,0,none⟩=some (.slice ca m cc):=by rw[←hW0]; exact World.cell?_alloc_new _ _ _ 0
    have hs0:W0.heap.size=w1.heap.size+1:=by rw[←hW0]; simp
    clear hW0
    have hH0:=hH1.below hb1
    have kV0:=(hb1.block (w.heap.size+1) (by have:=hw1.size; omega)).trans kV
    have kE0:=box_below kE hb1
    have kA0:=box_below kA hb1
    have hB0:Below w.heap.size w W0:=hBw.trans (hb1.mono hBw.size)
    have hs1:=hw1.size
    clear kV kE kA hBw hH1 c1 c3 hb1
    refine wpIn_rangeFunc_ownH (F:=Fence.wide) rfl (by omega) (gf:=177) (lb:=#[.pointer (some ⟨w1.heap.size,0,none⟩)]) rfl trivial (enters_of Tryz.func177 (by kernel_rfl) rfl)
     (back_stops Fence.wide (10 - 1) trivial rfl (by omega) w1.heap.size W0.heap.size g ca m cc C hH0.mb W0 (by omega) (by omega) (Nat.le_refl _) hcN hH0.cs) belowK_t (belowK_b (Nat.le_refl _)) (Below.refl _ _) (fun _=>rfl)
     (fun pre W=>(∀x ∈ pre,(C x).place≠p)∧Below W0.heap.size W0 W)
     (fun c pre W=>c=.ret∧∃ini x,pre=ini ++ [x]∧(∀y ∈ ini,(C y).place≠p)∧(C x).place=p∧W.heap[w.heap.size+1]?=some (.cells (bl (C x).data).toArray 47 (0,0))∧Boxed W (w.heap.size+1+1) 48 (.int .i64 0)∧Below w.heap.size w W)
     (OwnFrom.and (ownFrom_pure _ _) (ownFrom_below (Nat.le_refl _) (Nat.le_refl _)))
     (fun c s A B row hs hg hr=>by
      obtain⟨hc,ini,x,e1,e2,e3,hV,hE,hB⟩:=hs
      exact⟨hc,ini,x,e1,e2,e3,row_kept hV hg (fun r e=>(hr r e).2),row_kept hE hg (fun r e=>(hr r e).2),ownFrom_below (β:=Unit) (w₀:=w) (Nat.le_refl _) hB0.size () A B row hB hg hr⟩)
     ⟨by simp,Below.refl _ _⟩
     (fun x a' W=>∃Bx,W0.heap.size≤Bx∧W.heap[Bx]?=some (.cells (wrV (C x)).toArray 108 (0,0))∧∃u0 u1 u2 u6 u8 u9 u10 u11 u12 u13 u14 u15 u16 u17 u18 u19 u20 u21 u22 u23 u24 u25 u26 u27 u28 u29 u30 u31 u32 u33 u34 u35 u36 u37 u38 u39 u40 u41 u42 u43 u44 u45 u46 u47 u48 u49 u50 u51 u52 u53 u54,a'={ tmps:=#[u0,u1,u2,.pointer (some ⟨w.heap.size,0,none⟩),.pointer (some ⟨w.heap.size+1,0,none⟩),.pointer (some ⟨w.heap.size+1+1,0,none⟩),u6,.pointer (some ⟨Bx,0,none⟩),u8,u9,u10,u11,u12,u13,u14,u15,u16,u17,u18,u19,u20,u21,u22,u23,u24,u25,u26,u27,u28,u29,u30,u31,u32,u33,u34,u35,u36,u37,u38,u39,u40,u41,u42,u43,u44,u45,u46,u47,u48,u49,u50,u51,u52,u53,u54],defers:=[] })
     (fun x a' _ X Y row hs hg hr=>by obtain⟨Bx,h1,h2,h3⟩:=hs; exact⟨Bx,h1,row_kept h2 hg (fun r e=>(hr r e).2),h3⟩)
     ?assign ?body ?done ?stop
    case assign=>
     rintro l pre x W K ⟨hp,hB⟩ hK
     gi_wp2_with (refine wpListIn_store_row rfl 108 (.tmp 7) (.tmp 31) rfl W.heap.size (wrV (C x)).toArray rfl rfl 108 _ (heap_alloc_new _ _) (by rw[List.size_toArray]; exact size_wr _) (by rw[wrV_asize]; rfl) (all_oneCell_toArray (wrV_one _)) ?_; rw[World.setRow_alloc_new]; simp only[Act.put])
     exact hK _ _ ((KeepsOthers.alloc _ _).from _) ((Below.refl _ W).alloc hB.size _) ⟨hp,hB.alloc hB.size _⟩ ⟨W.heap.size,hB.size,heap_alloc_new _ _,_,_,_,_,_,_,_,_,_,_,_,_,_,_,_,_,_,_,_,_,_,_,_,_,_,_,_,_,_,_,_,_,_,_,_,_,_,_,_,_,_,_,_,_,_,_,_,_,_,_,_,rfl⟩
    case body=>
     rintro l pre x a' W hl ⟨r,hr⟩ ⟨hp,hB⟩ ⟨Bx,hBx,hrow,u0,u1,u2,u6,u8,u9,u10,u11,u12,u13,u14,u15,u16,u17,u18,u19,u20,u21,u22,u23,u24,u25,u26,u27,u28,u29,u30,u31,u32,u33,u34,u35,u36,u37,u38,u39,u40,u41,u42,u43,u44,u45,u46,u47,u48,u49,u50,u51,u52,u53,u54,rfl⟩ hlt
     have cX:W.cell? ⟨Bx,0,none⟩=some (.int .i64 (C x).place):=by rw[cell_of_row W Bx 0 _ _ _ hrow]; rfl
     have cA:=(box_below kA0 hB).cell
     have hrg:W.rangeAt Bx 1 (bl (C x).data):=by
      intro i v hv
      rw[cell_of_row W Bx _ _ _ _ hrow]
      have:(wrV (C x))[1+i]?=some v:=by unfold wrV; rw[Nat.add_comm 1 i]; exact hv
      simpa using this
     have kVW:=(hB.block (w.heap.size+1) (by omega)).trans kV0
     have kEW:=box_below kE0 hB
     by_cases hpx:(C x).place=p
     ·rw[hpx] at cX
      have HPX:=Lib.hid hpx
      clear hpx hrow
      generalize hDD:(C x).data=D at hrg
      have HD:=Lib.hid hDD
      clear hDD
      have hBW:=hB0.trans (hB.mono hB0.size)
      have hgr:∀cells,W.grownBy (W.setRow (w.heap.size+1) cells) (some (w.heap.size+1)):=fun cells=>⟨rfl,rfl,rfl,by simp,fun k _ hr=>setRow_other _ _ _ _ (by simpa using hr)⟩
      gi_wp2_with (first
       | (refine wpListIn_load_mid rfl 47 (.tmp 36) rfl Bx 1 rfl (bl D) _ (by exact hrg) und29 rfl (sB _) ?_; simp only[Act.put,aA])
       | (refine wpListIn_store_row rfl 47 (.tmp 4) (.tmp 37) rfl (w.heap.size+1) (bl D).toArray rfl rfl 47 _ kVW (size_bl' _) rfl (bl_all _) ?_; simp only[Act.put]; obtain⟨w2,hw2,kV2,kE2,hB2⟩:=res_put hBW kVW (by omega) kEW (by omega) (bl D).toArray; have hg2:=hgr (bl D).toArray; rw[←hw2] at hg2 ⊢; have cE2:=kE2.cell; have fE2:=kE2.frozen; clear hw2))
      obtain⟨kV3,kE3,hB3⟩:=res_end hB2 kV2 kE2 (by omega) (by omega) (.int .i64 0)
      rw[←HD.out] at kV3
      exact⟨(KeepsFrom.of_grownBy hg2 (fun j e=>by cases e; omega)).trans ((KeepsOthers.setCell _ _ _).from _),rfl,pre,x,rfl,hp,HPX.out,kV3,kE3,hB3⟩
     ·have hpb:((C x).place == (p:Int))=false:=by simpa using hpx
      have HPX:=Lib.hid hpx
      clear hpx hrow hrg
      gi_wp2
      exact⟨KeepsFrom.refl _ _,Below.refl _ _,⟨fun y hy=>(List.mem_append.1 hy).elim (hp y) (fun e=>by simp at e; subst e; exact HPX.out),hB⟩⟩
    case done=>
     rintro D ys W hD rfl ⟨hne,hB⟩ hK
     have hlw:lastW C p m=none:=lastW_none fun j hj=>hne j (by
      simp only[down,List.mem_map,List.mem_range]
      exact⟨m - 1 - j,by omega,by omega⟩)
     have hHW:=hH0.below hB
     obtain⟨b,off,rfl,hbl,_,hrow⟩:=hHW.ss.rows.resolve_left (by omega)
     have c0:=hHW.bx.c0
     have cA:=(box_below kA0 hB).cell
     have hrp:=hrow p hpn
     have cN:W.cell? ⟨b,off+p * 130+128,none⟩=some (.bool (S p).noRead):=hrp 128 _ (secV_read _)
     have hp0:(0:Int)≤(p:Int):=by omega
     have kVW:=(hB.block (w.heap.size+1) (by omega)).trans kV0
     have kEW:=box_below kE0 hB
     have hBW:=hB0.trans (hB.mono hB0.size)
     have HRP:=Lib.hid hrp
     have HHW:=Lib.hid hHW
     clear hrow hrp hHW hne hH0 HH
     cases hnr:(S p).noRead with
     | true=>
      rw[hnr] at cN
      have h1:rdE n m S C false p=2:=by unfold rdE; rw[HOK.out,hlw,Int.toNat_natCast,hnr]; rfl
      have h2:rdV n m S C false p=fun _=>0:=by unfold rdV; rw[h1]; rfl
      have H12:=Lib.hid (And.intro h1 h2)
      clear h1 h2 hlw hnr
      go_wp2_with fail
      go_quiet (fail)
      have hbd:Below W.heap.size W (W.drewN nq):=⟨rfl,rfl,rfl,Nat.le_refl _,fun _ _=>rfl⟩
      have hKd:=(hbd.block D (Array.getElem?_eq_some_iff.1 hK).1).trans hK
      have kVd:=(hbd.block _ (Array.getElem?_eq_some_iff.1 kVW).1).trans kVW
      have kEd:=box_below kEW hbd
      have hBd:=hBW.trans (hbd.mono hBW.size)
      generalize W.drewN nq=W3 at hbd hKd kVd kEd hBd ⊢
      go_wp2_with (first
       | (refine wpList_buildTo rfl 47 #[] rfl _ rfl (bl fun _=>0).toArray built29 ?_; simp only[Act.put,aA])
       | (refine wpList_store_row rfl 47 (.tmp 4) (.tmp 46) rfl (w.heap.size+1) (bl fun _=>0).toArray rfl rfl 47 _ kVd (size_bl' _) rfl (bl_all _) ?_; simp only[Act.put]; obtain⟨w2,hw2,kV2,kE2,hB2⟩:=res_put hBd kVd (by omega) kEd (by omega) (bl fun _=>0).toArray; have hK2:w2.heap[D]?=some (.deferred (some [])):=by rw[hw2,setRow_other _ _ _ _ (by omega)]; exact hKd
          rw[←hw2]; have cE2:=kE2.cell; have fE2:=kE2.frozen; clear hw2))
      obtain⟨kV3,kE3,hB3⟩:=res_end hB2 kV2 kE2 (by omega) (by omega) (.int .i64 2)
      have hK3:(w2.setCell ⟨w.heap.size+1+1,0,none⟩ (.int .i64 2)).heap[D]?=some (.deferred (some [])):=(Below.heap_setCell _ _ _ _ (by simp only[]; omega)).trans hK2
      refine⟨by simp,.inl ⟨_,_,rfl,run_takeDeferred hK3,?_⟩⟩
      have hg:=grownBy_putObj' (w2.setCell ⟨w.heap.size+1+1,0,none⟩ (.int .i64 2)) D (.deferred none)
      have hr:∀r,some D=some r→∃o:Obj,(w2.setCell ⟨w.heap.size+1+1,0,none⟩ (.int .i64 2)).heap[r]?=some o∧o.isCells=false:=fun r e=>by cases e; exact⟨_,hK3,rfl⟩
      exact⟨_,results_rd rfl rfl rfl (row_kept kV3 hg hr) (row_kept kE3 hg hr),by rw[H12.out.1,H12.out.2],hB3.trans (belowK_b (w:=w) (Nat.le_refl _) _ D _ _ (by have:=hB0.size; omega) hK3 rfl rfl)⟩
     | false=>
      rw[hnr] at cN
      have h1:rdE n m S C false p=0:=by unfold rdE; rw[HOK.out,hlw,Int.toNat_natCast,hnr]; rfl
      have h2:rdV n m S C false p=(S p).data:=by unfold rdV; rw[h1,hlw,Int.toNat_natCast]; rfl
      have H12:=Lib.hid (And.intro h1 h2)
      clear h1 h2 hlw hnr
      go_wp2_with fail
      go_quiet (fail)
      have hbd:Below W.heap.size W (W.drewN nq):=⟨rfl,rfl,rfl,Nat.le_refl _,fun _ _=>rfl⟩
      have hKd:=(hbd.block D (Array.getElem?_eq_some_iff.1 hK).1).trans hK
      have kVd:=(hbd.block _ (Array.getElem?_eq_some_iff.1 kVW).1).trans kVW
      have kEd:=box_below kEW hbd
      have hBd:=hBW.trans (hbd.mono hBW.size)
      have kAd:=box_below (box_below kA0 hB) hbd
      have hHd:=HHW.out.below hbd
      have cD0:=hHd.bx.c0
      have hgd:=hHd.bx.lt
      have hrd:(W.drewN nq).rangeAt b (off+p * 130) (secV (S p)):=fun i v hv=>(hbd.cell (p:=⟨b,off+p * 130+i,none⟩) hbl).trans (HRP.out i v hv)
      have hrd2:(W.drewN nq).rangeAt b (off+p * 130) (bl (S p).data):=fun i v hv=>hrd i v (by
       have hi:i < (bl (S p).data).length:=(List.getElem?_eq_some_iff.1 hv).1
       unfold secV
       rw[List.getElem?_append_left hi]
       exact hv)
      have hbd2:b < (W.drewN nq).heap.size:=Nat.lt_of_lt_of_le hbl hbd.size
      generalize W.drewN nq=W3 at hbd hKd kVd kEd hBd kAd cD0 hgd hrd2 hbd2 ⊢
      clear hrd hHd
      go_wp2_with fail
      refine QuietTail.region (n:=8) (C:=fun w'=>Below W3.heap.size W3 w') (by kernel_rfl) (by decide) (by kernel_rfl) (by kernel_rfl) ⟨rfl,rfl,rfl,Nat.le_refl _,fun _ _=>rfl⟩ ?_
      simp only[List.take_succ_cons,List.take_zero,List.drop_succ_cons,List.drop_zero]
      refine q_val (.pointer (some ⟨g.b,g.o,none⟩)) rfl (fun w' hw'=>by go_simp) ?_
      simp only[Act.put,aA]
      refine q_val (.pointer (some ⟨g.b,g.o,none⟩)) rfl (fun w' hw'=>by go_simp) ?_
      simp only[Act.put,aA]
      refine q_val (.pointer (some ⟨g.b,g.o,none⟩)) rfl (fun w' hw'=>by go_simp) ?_
      simp only[Act.put,aA]
      refine q_val (.slice (some ⟨b,off,none⟩) n sc) rfl (fun w' hw'=>by have k0:=(hw'.cell (p:=⟨g.b,g.o,none⟩) hgd).trans cD0; go_simp) ?_
      simp only[Act.put,aA]
      refine q_val (.int .i64 p) rfl (fun w' hw'=>by have k0:=(box_below kAd hw').cell; go_simp) ?_
      simp only[Act.put,aA]
      refine q_val (.pointer (some ⟨b,off+p * 130,none⟩)) rfl (fun w' hw'=>by go_simp) ?_
      simp only[Act.put,aA]
      refine q_val (.pointer (some ⟨b,off+p * 130,none⟩)) rfl (fun w' hw'=>by go_simp) ?_
      simp only[Act.put,aA]
      refine q_load_mid 47 (.tmp 53) rfl rfl b (off+p * 130) rfl (bl (S p).data) _ (fun w' hw' i v hv=>(hw'.cell (p:=⟨b,off+p * 130+i,none⟩) hbd2).trans (hrd2 i v hv)) und29 rfl (sB _) ?_
      simp only[Act.put,aA]
      refine wpQuiet_nil ?_
      intro W4 hw4
      have hK4:=(hw4.block D (Array.getElem?_eq_some_iff.1 hKd).1).trans hKd
      have kV4:=(hw4.block _ (Array.getElem?_eq_some_iff.1 kVd).1).trans kVd
      have kE4:=box_below kEd hw4
      have hB4:=hBd.trans (hw4.mono hBd.size)
      go_wp2_with (refine wpList_store_row rfl 47 (.tmp 4) (.tmp 54) rfl (w.heap.size+1) (bl (S p).data).toArray rfl rfl 47 _ kV4 (size_bl' _) rfl (bl_all _) ?_; simp only[Act.put]; obtain⟨w2,hw2,kV2,kE2,hB2⟩:=res_put hB4 kV4 (by omega) kE4 (by omega) (bl (S p).data).toArray; have hK2:w2.heap[D]?=some (.deferred (some [])):=by rw[hw2,setRow_other _ _ _ _ (by omega)]; exact hK4
                   rw[←hw2]; have cE2:=kE2.cell; have fE2:=kE2.frozen; clear hw2)
      obtain⟨kV3,kE3,hB3⟩:=res_end hB2 kV2 kE2 (by omega) (by omega) (.int .i64 0)
      have hK3:(w2.setCell ⟨w.heap.size+1+1,0,none⟩ (.int .i64 0)).heap[D]?=some (.deferred (some [])):=(Below.heap_setCell _ _ _ _ (by simp only[]; omega)).trans hK2
      refine⟨by simp,.inl ⟨_,_,rfl,run_takeDeferred hK3,?_⟩⟩
      have hg:=grownBy_putObj' (w2.setCell ⟨w.heap.size+1+1,0,none⟩ (.int .i64 0)) D (.deferred none)
      have hr:∀r,some D=some r→∃o:Obj,(w2.setCell ⟨w.heap.size+1+1,0,none⟩ (.int .i64 0)).heap[r]?=some o∧o.isCells=false:=fun r e=>by cases e; exact⟨_,hK3,rfl⟩
      exact⟨_,results_rd rfl rfl rfl (row_kept kV3 hg hr) (row_kept kE3 hg hr),by rw[H12.out.1,H12.out.2],hB3.trans (belowK_b (w:=w) (Nat.le_refl _) _ D _ _ (by have:=hB0.size; omega) hK3 rfl rfl)⟩
    case stop=>
     rintro D c pre W hD ⟨k,hk,rfl⟩ ⟨rfl,ini,x,e1,e2,e3,hV,hE,hBw⟩ hK
     refine wpIn_wide.2 ?_
     go_wp2_with fail
     have hx:lastW C p m=some x:=lastW_some hk e1 e2 e3
     have h1:rdE n m S C false p=0:=by unfold rdE; rw[HOK.out,hx]; rfl
     have h2:rdV n m S C false p=(C x).data:=by unfold rdV; rw[h1,hx]; rfl
     refine⟨by simp,.inl ⟨_,_,rfl,run_takeDeferred hK,?_⟩⟩
     have hg:=grownBy_putObj' W D (.deferred none)
     have hr:∀r,some D=some r→∃o:Obj,W.heap[r]?=some o∧o.isCells=false:=fun r e=>by cases e; exact⟨_,hK,rfl⟩
     exact⟨_,results_rd rfl rfl rfl (row_kept hV hg hr) (row_kept hE hg hr),by rw[h1,h2],hBw.trans (belowK_b (w:=w) (Nat.le_refl _) W D _ _ (by have:=hB0.size; omega) hK rfl rfl)⟩
end Dk
namespace Dk
open Go.RowKit
theorem eqItems_same{P:Program}{e:TypeId}{k:IntKind}(he:P.plainKey e=true)(hu:P.underlying e=some (.int k))(d:Nat)(xs:Array Value)(F:Nat→Int)(w:World) :
  ∀(is:List Nat),(∀i ∈ is,xs[i]?=some (.int k (F i)))→(Op.eqItems (d+1) e 1 xs xs is).run P w=.ok true w
 | [],_=>by simp[Op.eqItems]
 | i :: is,h=>by
  have h1:=h i (by simp)
  simp only[Op.eqItems,Sem.run_bind,Nat.mul_one,run_part_plain w he h1,Result.andThen_ok,run_equalIn_int w d e k k (F i) (F i) hu]
  simpa using eqItems_same he hu d xs F w is fun j hj=>h j (by simp[hj])
theorem eq_blD(d:Nat)(f:Nat→Int)(w:World):(Op.equalIn (d+2) 47 (.agg (bl f).toArray) (.agg (bl f).toArray)).run Tryz.prog w=.ok true w:=by
 obtain⟨i,hi⟩:∃i,Tryz.prog.info? 5=some i:=⟨_,rfl⟩
 rw[run_equalIn_array w (d+1) (n:=128) (e:=5) _ _ (by kernel_rfl) hi,show Tryz.prog.cellsOf 5=1 by kernel_rfl]
 exact eqItems_same (k:=.u8) (by kernel_rfl) (by kernel_rfl) d _ f w _ fun i hi=>by
  have:(bl f)[i]?=some (.int .u8 (f i)):=bl_get f (by simpa using hi)
  simpa using this
end Dk
namespace Dk
open Go.RowKit
theorem disk_one(a b:Option Addr)(n c m e:Nat)(f:Int)(d:Bool):(#[.slice a n c,.slice b m e,.int .i64 f,.bool d]:Array Value).all (·.oneCell')=true:=by simp[Value.oneCell']
theorem owns_slice{w:World}{B:Nat}{e:TypeId}{k n:Nat}{v:Value}{xs:List Value}(h:w.ownsRow B e k v n xs):∃ao cap,v=.slice ao n cap:=by
 rcases h.2 with ⟨hv,hn⟩ | ⟨b,cap',cur,hv,_⟩
 ·exact⟨none,0,by rw[hv,hn]⟩
 ·exact⟨_,cap',hv⟩
end Dk
namespace Dk
open Go.RowKit
def newOk(k:Int):Bool:=decide (1≤k) && decide (k≤4096)
def News(w:World)(k:Int)(e:Ending)(w':World):Prop:=
 Below w.heap.size w w'∧if newOk k=true then ∃b,e=.returned (.tuple #[.agg #[.slice (some ⟨b,0,none⟩) k.toNat k.toNat,.slice none 0 0,.int .i64 (-1),.bool false],.int .i64 0])∧Lay w' w'.heap.size w'.heap.size (some ⟨b,0,none⟩) k.toNat k.toNat 130 (fun _=>secV sec0)∧Ty w' k.toNat (some ⟨b,0,none⟩) 130
  else e=.returned (.tuple #[.agg #[.slice none 0 0,.slice none 0 0,.int .i64 0,.bool false],.int .i64 1])
theorem made_flat(n:Nat):(madeCells (Value.agg (secV sec0).toArray).cells (n * 130)).toList=flat (fun _=>secV sec0) n:=by
 apply List.ext_getElem?
 intro j
 have hfl:=flat_length (T:=fun _=>secV sec0) (k:=130) (n:=n) (fun _ _=>secV_length _)
 by_cases hj:j < n * 130
 ·have hr:j % 130 < (secV sec0).length:=by rw[secV_length]; omega
  have e:=flat_get (T:=fun _=>secV sec0) (k:=130) (n:=n) (i:=j / 130) (r:=j % 130) (v:=(secV sec0)[j % 130]) (fun _ _=>secV_length _) (by omega) (List.getElem?_eq_getElem hr)
  rw[show j / 130 * 130+j % 130=j by omega] at e
  rw[e]
  have hsz:(Value.agg (secV sec0).toArray).cells=(secV sec0).toArray:=rfl
  rw[hsz]
  simp only[madeCells,Array.toList_map,List.getElem?_map,Array.toList_range,List.size_toArray,secV_length]
  rw[List.getElem?_range hj]
  simp[hr]
 ·rw[List.getElem?_eq_none (by simp[madeCells]; omega),List.getElem?_eq_none (by omega)]
theorem results_dt{tmps:Array Value}{w:World}{A:Nat}{u:Array Value}{v:Value}{fn:Func}(hf:fn.results=#[.cell 2 34,.tmp 3])(h2:tmps.getD 2 undef=.pointer (some ⟨A,0,none⟩))(h3:tmps.getD 3 undef=v)
  (hA:w.heap[A]?=some (.cells u 34 (0,0))) (su:u.size=4):(results fn tmps).run Tryz.prog w=.ok (.tuple #[.agg u,v]) w:=by
 have h2':tmps[2]?.getD undef=.pointer (some ⟨A,0,none⟩):=by simpa using h2
 have h3':tmps[3]?.getD undef=v:=by simpa using h3
 have k2:=run_loadVar_row (P:=Tryz.prog) w A 34 34 u (0,0) _ hA Tryz.underlying34 rfl (by rw[su]; kernel_rfl)
 simp[results,hf,h2',h3',asAddr,k2]
theorem new_any(k:Int)(w:World):Calls Tryz.prog 59 #[.int .i64 k] w (News w k):=by
 have hlt:w.heap.size < (w.alloc (.cells #[.slice none 0 0,.slice none 0 0,.int .i64 0,.bool false] 34)).heap.size:=by simp
 by_cases hok:newOk k=true
 ·have h0:=hok
  simp only[newOk,Bool.and_eq_true,decide_eq_true_eq] at h0
  obtain⟨h1,h2⟩:=h0
  obtain⟨i0,hi,hz0,hz1,hz2⟩:=info_parts info_sec
  have HOK:=Lib.hid hok
  clear hok
  obtain⟨n,rfl⟩:∃n:Nat,k=n:=⟨k.toNat,by omega⟩
  go_enter Tryz.func59,Tryz.ntmps59
  go_wp2_with (first
   | (at_make; refine wpList_make_full _ rfl (.tmp 11) (.tmp 11) 31 rfl w.heap.size 130 i0 _ 130 slice_sec hi hz0 hz1 .i64 .i64 n n n rfl rfl rfl rfl (by rw[hz2]; omega) (maxLen_ge (by omega)) (by simp) ?_; intro w1 hs1 hg1
      have hb1:Below w.heap.size w w1:=((Below.refl _ _).alloc (Nat.le_refl _) _).grown hg1 (by simp) (fun k hk=>by cases hk)
      have hr1:w1.heap[w.heap.size]?=some (.cells #[.slice none 0 0,.slice none 0 0,.int .i64 0,.bool false] 34 (0,0)):=(hg1.block _ (by simp) (by simp)).trans (heap_alloc_new w _)
      have hs2:=hs1
      simp only[World.size_alloc] at hs2
      clear hs1 hg1)
   | (refine wpList_store_row rfl 34 (.tmp 2) (.tmp 13) rfl w.heap.size #[.slice (some ⟨w.heap.size+1,0,none⟩) n n,.slice none 0 0,.int .i64 (-1),.bool false] rfl rfl 34 _ hr1 (by kernel_rfl) rfl (disk_one _ _ _ _ _ _ _ _) ?_; simp only[Act.put]))
  have hrow:=setRow_heap w1 w.heap.size _ #[.slice (some ⟨w.heap.size+1,0,none⟩) n n,.slice none 0 0,.int .i64 (-1),.bool false] 34 (0,0) hr1
  refine bodyPost_ret (results_dt rfl rfl rfl hrow rfl) rfl ?_
  have hrg:w1.grownBy (w1.setRow w.heap.size #[.slice (some ⟨w.heap.size+1,0,none⟩) n n,.slice none 0 0,.int .i64 (-1),.bool false]) (some w.heap.size):=⟨rfl,rfl,rfl,by simp,fun i _ hr=>setRow_other _ _ _ _ (by simpa using hr)⟩
  have hown:(w1.setRow w.heap.size #[.slice (some ⟨w.heap.size+1,0,none⟩) n n,.slice none 0 0,.int .i64 (-1),.bool false]).ownsRow w.heap.size 130 130 (.slice (some ⟨w.heap.size+1,0,none⟩) n n) n (flat (fun _=>secV sec0) n):=by
   rw[←made_flat]
   exact hs2.kept hrg (.inr (by simp[Value.ownBlock]))
  refine⟨hb1.grown hrg hb1.size (fun k hk=>by injection hk with hk; omega),?_⟩
  rw[if_pos HOK.out,Int.toNat_natCast]
  exact⟨w.heap.size+1,rfl,lay_own (fun _ _=>secV_length _) hown (.inr (Nat.le_refl _)),.own hown⟩
 ·have hno:newOk k=false:=by simpa using hok
  have hc:k < 1∨(¬ k < 1∧4096 < k):=by
   simp only[newOk,Bool.and_eq_false_iff,decide_eq_false_iff_not] at hno
   omega
  have HNO:=Lib.hid hno
  clear hok hno
  rcases hc with h1 | ⟨h1,h2⟩
  all_goals
   go_enter Tryz.func59,Tryz.ntmps59
   go_wp2_with (refine wpList_store_row rfl 34 (.tmp 2) (.tmp 10) rfl w.heap.size #[.slice none 0 0,.slice none 0 0,.int .i64 0,.bool false] rfl rfl 34 _ (heap_alloc_new w _) (by kernel_rfl) rfl (disk_one _ _ _ _ _ _ _ _) ?_; rw[World.setRow_alloc_new]; simp only[Act.put])
   refine bodyPost_ret (results_dt rfl rfl rfl (heap_alloc_new w _) rfl) rfl ?_
   refine⟨(Below.refl _ _).alloc (Nat.le_refl _) _,?_⟩
   rw[if_neg (by rw[HNO.out]; simp)]
   all_goals rfl
end Dk
namespace Dk
open Go.RowKit
attribute [local go_sem] zv29
def five(j:Nat):Int:=if j=0 then 5 else 0
theorem new_has{w w':World}{b:Nat}{k:Nat}{f:Int}{d:Bool}(hk:k * 130≤140737488355328)(h:Lay w w.heap.size w.heap.size (some ⟨b,0,none⟩) k k 130 (fun _=>secV sec0))(ht:Ty w k (some ⟨b,0,none⟩) 130)(hw:w'=w.alloc (.cells #[.slice (some ⟨b,0,none⟩) k k,.slice none 0 0,.int .i64 f,.bool d] 34)) :
  Has w' (Pl.own w.heap.size 34) (some ⟨b,0,none⟩) none k k 0 0 (fun _=>sec0) (fun _=>wr0) f d:=by
 subst hw
 have h1:=(h.keep (w':=w.alloc (.cells #[.slice (some ⟨b,0,none⟩) k k,.slice none 0 0,.int .i64 f,.bool d] 34)) fun b hb _=>Below.heap_alloc _ _ _ hb).more (B':=(w.alloc (.cells #[.slice (some ⟨b,0,none⟩) k k,.slice none 0 0,.int .i64 f,.bool d] 34)).heap.size) (by simp)
 exact⟨heap_alloc_new _ _,h1,Lay.empty _ _ _ 0 _ _,hk,by omega,ht.below h ((Below.refl _ _).alloc (Nat.le_refl _) _),.zero _ _ _⟩
abbrev S0:Nat→Sec:=fun _=>sec0
abbrev C0:Nat→Wr:=fun _=>wr0
abbrev C1:Nat→Wr:=updC C0 0 ⟨1,five⟩
abbrev K1:Nat→Bool:=keepB 1 fun _=>true
abbrev S1:Nat→Sec:=stS S0 C1 K1 1
end Dk
end Go.Proofs.YteaocagepfgfnaaGreatDoor
