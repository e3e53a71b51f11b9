import Derived.Test.YteaocagepfgfnaaGreatDoorRows
import Derived.WalkKit
import Derived.Handy
import Derived.Lib.Hide
import Derived.Laws.AppendOwnNone
import Derived.Deep.MidRow
import Derived.Test.YteaocagepfgfnaaGreatDoorPJDn
import Derived.Test.YteaocagepfgfnaaGreatDoorPJRd
import Derived.Deep.RegionHeld3
import Derived.Test.YteaocagepfgfnaaGreatDoorPSpTk
import Derived.BigRegion
set_option maxRecDepth 100000
set_option maxHeartbeats 8000000
namespace Go.Proofs.YteaocagepfgfnaaGreatDoor
namespace OwnB
open Go.RowKit
def IsB(v:Value):Prop:=∃z:Int,v=.int .u8 z
def bs(xs:List Int):List Value:=xs.map (.int .u8 ·)
def Own(w:World)(B:Nat)(e:TypeId)(v:Value)(xs:List Int):Prop:=
 (v=.slice none 0 0∧xs=[])∨
 ∃g cap cur,v=.slice (some ⟨g,0,none⟩) xs.length cap∧B≤g∧w.heap[g]?=some (.cells cur e (0,0))∧xs.length≤cap∧cap≤maxLen∧cur.size=cap∧cur.toList.take xs.length=bs xs∧∀u ∈ cur.toList,IsB u
section
variable {w w':World}{B:Nat}{e:TypeId}{v:Value}{xs:List Int}
end
end OwnB
namespace Dk
open Go.RowKit
theorem inAll_upd{n:Nat}{C:Nat→Wr}{x:Wr}:∀m,inAll n C m=true→hasB n x.place=true→inAll n (updC C m x) (m+1)=true:=by
 intro m h hx
 have h0:∀j,j≤m→inAll n (updC C m x) j=true:=by
  intro j
  induction j with
  | zero=>intro _; rfl
  | succ j ih=>
   intro hj
   simp only[inAll,Bool.and_eq_true]
   refine⟨ih (by omega),?_⟩
   simp only[updC]; rw[if_neg (by omega)]
   exact inAll_at (by omega) h
 simp only[inAll,Bool.and_eq_true]
 refine⟨h0 m (Nat.le_refl _),?_⟩
 simp only[updC,if_true]; exact hx
end Dk
namespace Dk
open Go.RowKit
section
variable {w w':World}{g:Nat}{t:TypeId}{n:Nat}{F:Nat→Value}
end
theorem Lay.grown2{w w':World}{B g:Nat}{ao:Option Addr}{n cap k:Nat}{T:Nat→List Value}{row:Option Nat}(h:Lay w B g ao n cap k T)(hg:w.grownBy w' row)(hB:B≤w.heap.size)(hne:∀q o,ao=some ⟨q,o,none⟩→n=0∨some q≠row):Lay w' B g ao n cap k T:=by
 refine⟨h.room,h.nil,?_⟩
 rcases h.rows with h0 | ⟨b,off,e,hb,hbg,hr⟩
 ·exact .inl h0
 ·rcases hne b off e with h0 | h1
  ·exact .inl h0
  ·exact .inr ⟨b,off,e,hb,hbg,fun i hi j v hv=>(World.cell?_of_block (w:=w) (hg.block b (by omega) h1)).trans (hr i hi j v hv)⟩
theorem Ty.grown2{w w':World}{g:Nat}{ao:Option Addr}{n cap k:Nat}{T:Nat→List Value}{t:TypeId}{row:Option Nat}(h:Ty w n ao t)(hg:w.grownBy w' row)(hl:Lay w w.heap.size g ao n cap k T)(hne:∀q o,ao=some ⟨q,o,none⟩→n=0∨some q≠row):Ty w' n ao t:=by
 rcases h with h | h
 ·exact .inl h
 ·rcases hl.rows with h0 | ⟨b,off,e,hb,_,_⟩
  ·exact .inl h0
  ·rcases hne b off e with h0 | h1
   ·exact .inl h0
   ·refine .inr fun q o s e'=>?_
    obtain⟨cur,hc⟩:=h q o s e'
    rw[e] at e'
    injection e' with e'
    injection e' with e1
    subst e1
    exact⟨cur,(hg.block b hb h1).trans hc⟩
theorem Has.sa_ne{w:World}{g:Pl}{sa ca:Option Addr}{n sc m cc:Nat}{S:Nat→Sec}{C:Nat→Wr}{f:Int}{d:Bool}(h:Has w g sa ca n sc m cc S C f d){b:Nat}{cur:Array Value}{t:TypeId}{fr:Nat × Nat}(hb:w.heap[b]?=some (.cells cur t fr))
  (hc:(∀u ∈ cur.toList,OwnB.IsB u)∨cur.size≤4):(∀q o,sa=some ⟨q,o,none⟩→n=0∨some q≠some b)∧(∀q o,ca=some ⟨q,o,none⟩→m=0∨some q≠some b):=by
 constructor
 ·intro q o e
  by_cases h0:n=0
  ·exact .inl h0
  ·refine .inr fun hq=>?_
   injection hq with hq
   subst hq
   obtain⟨b,off,e1,_,_,hr⟩:=h.ss.rows.resolve_left h0
   rw[e] at e1
   injection e1 with e1
   injection e1 with e1 e2
   subst e1 e2
   have h1:=hr 0 (by omega) 128 _ (secV_read (S 0))
   rw[cell_of_row w q _ cur t fr hb] at h1
   rcases hc with hc | hc
   ·obtain⟨z,hz⟩:=hc _ (by simpa using Array.mem_of_getElem? h1)
    cases hz
   ·have:=(Array.getElem?_eq_some_iff.1 h1).1
    omega
 ·intro q o e
  by_cases h0:m=0
  ·exact .inl h0
  ·refine .inr fun hq=>?_
   injection hq with hq
   subst hq
   obtain⟨b,off,e1,_,_,hr⟩:=h.cs.rows.resolve_left h0
   rw[e] at e1
   injection e1 with e1
   injection e1 with e1 e2
   subst e1 e2
   rcases hc with hc | hc
   ·have h1:=hr 0 (by omega) 0 _ (wrV_place (C 0))
    rw[cell_of_row w q _ cur t fr hb] at h1
    obtain⟨z,hz⟩:=hc _ (by simpa using Array.mem_of_getElem? h1)
    cases hz
   ·have h1:=hr 0 (by omega) (1+100) _ (wrV_data (C 0) (by omega))
    rw[cell_of_row w q _ cur t fr hb] at h1
    have:=(Array.getElem?_eq_some_iff.1 h1).1
    omega
theorem Has.only{w w':World}{g:Pl}{sa ca:Option Addr}{n sc m cc:Nat}{S:Nat→Sec}{C:Nat→Wr}{f:Int}{d:Bool}(h:Has w g sa ca n sc m cc S C f d){b:Nat}{cur:Array Value}{t:TypeId}{fr:Nat × Nat}(hb:w.heap[b]?=some (.cells cur t fr))
  (hc:(∀u ∈ cur.toList,OwnB.IsB u)∨cur.size≤4) (hgb:g≠b) (hg:w.grownBy w' (some b)):Has w' g sa ca n sc m cc S C f d:=by
 obtain⟨h1,h2⟩:=h.sa_ne hb hc
 exact⟨h.bx.block (hg.block g h.bx.lt (by simpa using hgb)),(h.ss.grown2 hg (Nat.le_refl _) h1).more hg.size,(h.cs.grown2 hg (Nat.le_refl _) h2).more hg.size,h.nb,h.mb,h.ts.grown2 hg h.ss h1,h.tc.grown2 hg h.cs h2⟩
section
variable {w0 w w':World}{g b9 b10 m:Nat}{S:Nat→Sec}{C:Nat→Wr}{f:Int}{d:Bool}{V:Nat→Value}{L:Nat→List Int}{Z:Nat→Int}
end
end Dk
namespace Rm
open Go.RowKit Dk Byt
attribute [local go_sem] zv29
attribute [local go_sem] zc29
theorem keepC{L:Nat→Bool}{i:Nat}(h:L 11=true→L 10=true)(h1:(11 == i)=false):(11 == i || L 11)=true→(10 == i || L 10)=true:=by
 rw[h1,Bool.false_or]; intro h'; rw[h h']; simp
theorem allocKeep{L:Nat→Bool}{u:Value}{B:Nat}{w' w'':World}{Z Y:Obj}(h:L 10=true→∃bk,u=.pointer (some ⟨bk,0,none⟩)∧B≤bk∧(L 11=false→w'.heap[bk]?=some Z)∧(L 11=true→w'.heap[bk]?=some Y))(hb:Below w'.heap.size w' w'') :
  L 10=true→∃bk,u=.pointer (some ⟨bk,0,none⟩)∧B≤bk∧(L 11=false→w''.heap[bk]?=some Z)∧(L 11=true→w''.heap[bk]?=some Y):=by
 intro hl
 obtain⟨bk,h1,h2,h3,h4⟩:=h hl
 exact⟨bk,h1,h2,fun e=>(hb.block bk (Array.getElem?_eq_some_iff.1 (h3 e)).1).trans (h3 e),fun e=>(hb.block bk (Array.getElem?_eq_some_iff.1 (h4 e)).1).trans (h4 e)⟩
theorem keepA{L:Nat→Bool}{i:Nat}{P:Nat→Prop}{Q R:Nat→Prop}{u:Value}(h:L 10=true→∃bk,u=.pointer (some ⟨bk,0,none⟩)∧P bk∧(L 11=false→Q bk)∧(L 11=true→R bk))(h1:(10 == i)=false)(h2:(11 == i)=false) :
  (10 == i || L 10)=true→∃bk,u=.pointer (some ⟨bk,0,none⟩)∧P bk∧((11 == i || L 11)=false→Q bk)∧((11 == i || L 11)=true→R bk):=by
 rw[h1,h2,Bool.false_or,Bool.false_or]; exact h
def FInv(x1 x2 x3 x4 x8 x9 x10 x11 x12 x13 x14 x15 x26 x27 x28 x29 x30 x31 x32 x33 x34 x35 x36 x37 x38 x39 x40 x41 x42 x43 x44 x45 x46 x47 x48:Value)(gen:Int)(ta:Option Addr)(tk tc tb:Nat)(g:Pl)(n:Nat)(sa:Option Addr)(sc:Nat)(V:Nat→Int)(E:Int)(w0:World)(L:Nat→Bool)(a':Act)(w':World):Prop:=
 ∃u0 u1 u2 u3 u4 u5 u6 u7 u8 u9 u10 u11,a'={ tmps:=#[.pointer (some ⟨g.b,g.o,none⟩),x1,x2,x3,x4,.pointer (some ⟨tb,0,none⟩),u10,u11,x8,x9,x10,x11,x12,x13,x14,x15,u7,u0,u1,u2,u3,u4,u5,u6,u8,u9,x26,x27,x28,x29,x30,x31,x32,x33,x34,x35,x36,x37,x38,x39,x40,x41,x42,x43,x44,x45,x46,x47,x48],defers:=[] }∧(L 0=true→u0=.agg #[.int .i64 gen,.slice ta tk tc])∧(L 1=true→u1=.pointer (some ⟨g.b,g.o,none⟩))∧(L 2=true→u2=.pointer (some ⟨g.b,g.o,none⟩))∧(L 3=true→u3=.pointer (some ⟨g.b,g.o,none⟩))∧(L 4=true→u4=.slice sa n sc)∧(L 5=true→u5=.int .i64 n)∧(L 6=true→u6=.tuple #[.agg (bl V).toArray,.int .i64 E])∧(L 7=true→u7=.tuple #[.agg (bl V).toArray,.int .i64 E])∧(L 8=true→u8=.agg (bl V).toArray)∧(L 9=true→u9=.int .i64 E)∧(L 12=true→u11=.int .i64 E)∧(L 10=true→∃bk,u10=.pointer (some ⟨bk,0,none⟩)∧w0.heap.size≤bk∧(L 11=false→w'.heap[bk]?=some (.cells (bl fun _=>0).toArray 47 (0,0)))∧(L 11=true→w'.heap[bk]?=some (.cells (bl V).toArray 47 (0,0))))∧(L 11=true→L 10=true)∧Below w0.heap.size w0 w'
def zF:Nat→Int:=fun _=>0
def tab0(n:Nat):Nat→Int:=putV n 0 0 zF zF
def fmS(n:Nat)(hh:Int)(V:Nat→Int)(X:Dst):Nat→Dst
 | 0=>X
 | c+1=>dWr n (fmS n hh V X c) (c * hh) V
def fmC(n:Nat)(hh:Int)(V:Nat→Int)(X:Dst)(c:Nat):Int:=dWrE n (fmS n hh V X c) (c * hh)
def fmE'(n:Nat)(hh:Int)(V:Nat→Int)(X:Dst):Int:=if hh=0 then 1 else if fmC n hh V X 0≠0 then fmC n hh V X 0 else if fmC n hh V X 1≠0 then fmC n hh V X 1 else dFlE n (fmS n hh V X 2)
def fmX'(n:Nat)(hh:Int)(V:Nat→Int)(X:Dst):Dst:=if hh=0 then X else if fmC n hh V X 0≠0 then fmS n hh V X 1 else if fmC n hh V X 1≠0 then fmS n hh V X 2 else dFl n (fmS n hh V X 2)
def fmE(n:Nat)(X:Dst):Int:=fmE' n (hfN n X) (tab0 n) X
def fmX(n:Nat)(X:Dst):Dst:=fmX' n (hfN n X) (tab0 n) X
theorem fm_cases(n:Nat)(X:Dst):(hfN n X=0→fmE n X=1∧fmX n X=X)∧
  (hfN n X≠0→∀c,c < 2→(∀c',c' < c→fmC n (hfN n X) (tab0 n) X c'=0)→fmC n (hfN n X) (tab0 n) X c≠0→fmE n X=fmC n (hfN n X) (tab0 n) X c∧fmX n X=fmS n (hfN n X) (tab0 n) X (c+1))∧
  (hfN n X≠0→(∀c',c' < 2→fmC n (hfN n X) (tab0 n) X c'=0)→fmE n X=dFlE n (fmS n (hfN n X) (tab0 n) X 2)∧fmX n X=dFl n (fmS n (hfN n X) (tab0 n) X 2)):=by
 unfold fmE fmX fmE' fmX'
 refine⟨fun h=>?_,fun h c hc h1 h2=>?_,fun h h1=>?_⟩
 ·rw[if_pos h,if_pos h]; exact⟨rfl,rfl⟩
 ·rw[if_neg h,if_neg h]
  match c,hc with
  | 0,_=>rw[if_pos h2,if_pos h2]; exact⟨rfl,rfl⟩
  | 1,_=>
   have z0:=h1 0 (by omega)
   simp[z0,h2]
 ·have z0:=h1 0 (by omega)
  have z1:=h1 1 (by omega)
  simp[h,z0,z1]
theorem fmS_ok{n:Nat}{hh:Int}{V:Nat→Int}{X:Dst}(h:Ok 2 X):∀c,c≤2→Ok (2 - c) (fmS n hh V X c)
 | 0,_=>h
 | c+1,hc=>by
  have:=fmS_ok (n:=n) (hh:=hh) (V:=V) h c (by omega)
  rw[show 2 - c=(2 - (c+1))+1 by omega] at this
  exact this.wr
theorem tableAt_zero(h c:Int)(w:World)(h0:0≤h)(h1:h≤4096)(c0:0≤c)(c1:c≤1):Calls Tryz.prog 93 #[.int .i64 h,.int .i64 0,.int .i64 c] w fun e w'=>e=.returned (.int .i64 (c * h))∧Below w.heap.size w w':=
 (tableAt_any h 0 c w h0 h1 (by omega) c0 c1).mono fun e w' ⟨he,hb⟩=>⟨by rw[he]; simp,hb⟩
theorem rm_one:(#[.int .i64 0,.slice none 0 0]:Array Value).all (·.oneCell')=true:=by simp[Value.oneCell']
theorem gR{a w:World}{g b:Nat}(h:a.grownBy w (some g))(hb:a.heap.size≤b)(cs:Array Value):a.grownBy (w.setRow b cs) (some g):=
 ⟨h.os,h.tape,h.output,by simp[h.size],fun k hk hr=>(setRow_other w b k cs (by omega)).trans (h.block k hk hr)⟩
theorem HasD.row{w:World}{g:Pl}{n b:Nat}{X:Dst}(h:HasD w g n X){gen:Int}{ta:Option Addr}{tk tc:Nat}{t:TypeId}(hb:w.heap[b]?=some (.cells #[.int .i64 gen,.slice ta tk tc] t (0,0)))(hne:g≠b)(cs:Array Value):HasD (w.setRow b cs) g n X:=by
 obtain⟨sa,sc,ca,cc,hh⟩:=h
 exact⟨sa,sc,ca,cc,hh.only hb (.inr (by simp)) hne ⟨rfl,rfl,rfl,by simp,fun k _ hr=>setRow_other w b k cs (by simpa using hr)⟩⟩
theorem results_fm{tmps:Array Value}{w:World}{B:Nat}{e:Int}{fn:Func}(hf:fn.results=#[.cell 2 37,.tmp 3])(h4:tmps.getD 2 undef=.pointer (some ⟨B,0,none⟩))(h5:tmps.getD 3 undef=.int .i64 e)
  (kV:w.heap[B]?=some (.cells #[.int .i64 0,.slice none 0 0] 37 (0,0))):(results fn tmps).run Tryz.prog w=.ok (.tuple #[.agg #[.int .i64 0,.slice none 0 0],.int .i64 e]) w:=by
 have h4':tmps[2]?.getD undef=.pointer (some ⟨B,0,none⟩):=by simpa using h4
 have h5':tmps[3]?.getD undef=.int .i64 e:=by simpa using h5
 have hv:=run_loadVar_row (P:=Tryz.prog) w B 37 37 #[.int .i64 0,.slice none 0 0] (0,0) _ kV Tryz.underlying37 rfl (by kernel_rfl)
 simp[results,hf,h4',h5',asAddr,hv]
theorem format_d{w:World}{g:Pl}{n:Nat}{X:Dst}(h:HasD w g n X)(hok:Ok 2 X)(hk:Kp w) :
  Calls Tryz.prog 60 #[.pointer (some ⟨g.b,g.o,none⟩)] w fun e w'=>e=.returned (.tuple #[.agg #[.int .i64 0,.slice none 0 0],.int .i64 (fmE n X)])∧w.grownBy w' (some g.b)∧HasD w' g n (fmX n X):=by
 have HD:=Lib.hid h
 have hgl:=h.lt
 have HOK:=Lib.hid hok
 have HKP:=Lib.hid hk
 have hbd:=hfN_bd n X
 have HHA:=Lib.hid (fun W h=>half_d (w:=W) (g:=g) (n:=n) (X:=X) h)
 have HF:=Lib.hid (fm_cases n X)
 clear h hok hk
 generalize fmE n X=FE at HF ⊢
 generalize fmX n X=FX at HF ⊢
 generalize hfN n X=hh at hbd HHA HF
 go_enter Tryz.func60,Tryz.ntmps60
 go_wp2_with fail
 generalize hW:w.alloc (.cells #[.int .i64 0,.slice none 0 0] 37)=W
 have hB0:Below w.heap.size w W:=by rw[←hW]; exact(Below.refl _ _).alloc (Nat.le_refl _) _
 have hr0:W.heap[w.heap.size]?=some (.cells #[.int .i64 0,.slice none 0 0] 37 (0,0)):=by rw[←hW]; exact heap_alloc_new _ _
 have hs0:W.heap.size=w.heap.size+1:=by rw[←hW]; simp
 clear hW
 refine(HHA.out W (HD.out.below hB0)).mono ?_
 rintro _ w1 ⟨rfl,hb1⟩
 have hr1:=(hb1.block w.heap.size (by omega)).trans hr0
 have hB1:Below w.heap.size w w1:=hB0.trans (hb1.mono (by omega))
 have hs1:w.heap.size < w1.heap.size:=by have:=hb1.size; omega
 have hD1:=HD.out.below hB1
 clear hB0 hb1 hr0 hs0 HHA
 dsimp only
 by_cases e0:hh=0
 ·have HFE1:Hid (FE=1):=Lib.hid (HF.out.1 e0).1
  have HFX1:Hid (FX=X):=Lib.hid (HF.out.1 e0).2
  subst e0
  go_wp2_with (refine wpList_store_row rfl 37 (.tmp 2) (.tmp 15) rfl w.heap.size #[.int .i64 0,.slice none 0 0] rfl rfl 37 _ hr1 (by kernel_rfl) rfl rm_one ?_; simp only[Act.put])
  have hr2:=setRow_heap w1 w.heap.size _ #[.int .i64 0,.slice none 0 0] 37 (0,0) hr1
  refine bodyPost_ret (results_fm rfl rfl rfl hr2) rfl ?_
  exact⟨by rw[HFE1.out],gR (oB hB1) (Nat.le_refl _) _,by rw[HFX1.out]; exact hD1.row hr1 (by omega) _⟩
 have e1:(hh == 0)=false:=by simpa using e0
 go_wp2_with fail
 generalize hW:w1.alloc (.cells #[.int .i64 0,.slice none 0 0] 37)=w2
 have hb2:Below w1.heap.size w1 w2:=by rw[←hW]; exact(Below.refl _ _).alloc (Nat.le_refl _) _
 have ht2:w2.heap[w1.heap.size]?=some (.cells #[.int .i64 0,.slice none 0 0] 37 (0,0)):=by rw[←hW]; exact heap_alloc_new _ _
 have hs2:w2.heap.size=w1.heap.size+1:=by rw[←hW]; simp
 clear hW
 have hB2:Below w.heap.size w w2:=hB1.trans (hb2.mono (by omega))
 have hr2:=(hb2.block w.heap.size hs1).trans hr1
 have hD2:=HD.out.below hB2
 obtain⟨sa,sc,ca,cc,hH2⟩:=hD2
 have c0:=hH2.bx.c0
 have hgl2:=hH2.bx.lt
 have HGB:=Lib.hid (fun w' (hw':Below w2.heap.size w2 w')=>(hw'.cell (p:=⟨g.b,g.o,none⟩) hgl2).trans c0)
 have HTB:=Lib.hid (fun w' (hw':Below w2.heap.size w2 w')=>show w'.cell? ⟨w1.heap.size,0,none⟩=some (.int .i64 0)∧w'.cell? ⟨w1.heap.size,1,none⟩=some (.slice none 0 0) from
  ⟨(hw'.cell (p:=⟨w1.heap.size,0,none⟩) (show w1.heap.size < w2.heap.size by omega)).trans (by rw[cell_of_row _ _ _ _ _ _ ht2]; rfl),(hw'.cell (p:=⟨w1.heap.size,1,none⟩) (show w1.heap.size < w2.heap.size by omega)).trans (by rw[cell_of_row _ _ _ _ _ _ ht2]; rfl)⟩)
 have HPUT:=Lib.hid (fun w' (hw':Below w2.heap.size w2 w')=>put_any n 0 0 zF zF none 0 0 w' (Lay.empty _ _ _ 0 _ _) (by omega) (fun i hi=>by omega) ((HKP.out.below hB2).below hw'))
 have hT0:putV n 0 0 zF zF=tab0 n:=rfl
 rw[hT0] at HPUT
 generalize hV:tab0 n=V at HPUT HF
 generalize putEr n 0 0 zF zF=E at HPUT
 clear hT0 hV hH2 c0 hr1 hD1
 refine QuietTail2.regionInv (n:=13) (Inv:=FInv _ _ _ _ _ _ _ _ _ _ _ _ _ _ _ _ _ _ _ _ _ _ _ _ _ _ _ _ _ _ _ _ _ _ _ 0 none 0 0 w1.heap.size g n sa sc V E w2) (by kernel_rfl) (by decide) (by kernel_rfl) ⟨_,_,_,_,_,_,_,_,_,_,_,_,rfl,by simp,by simp,by simp,by simp,by simp,by simp,by simp,by simp,by simp,by simp,by simp,by simp,by simp,⟨rfl,rfl,rfl,Nat.le_refl _,fun _ _=>rfl⟩⟩ ?step ?fin
 case step=>
  rintro i o hi ho L a' w' ⟨u0,u1,u2,u3,u4,u5,u6,u7,u8,u9,u10,u11,rfl,i0,i1,i2,i3,i4,i5,i6,i7,i8,i9,i11,ia,ic,iB⟩ hL hpre
  match i,hi with
  | 0,_=>
   simp at ho
   subst ho
   obtain⟨k0,k1⟩:=HTB.out w' iB
   go_simp
   exact⟨_,u1,u2,u3,u4,u5,u6,u7,u8,u9,u10,u11,rfl,fun _=>rfl,kL i1 rfl,kL i2 rfl,kL i3 rfl,kL i4 rfl,kL i5 rfl,kL i6 rfl,kL i7 rfl,kL i8 rfl,kL i9 rfl,kL i11 rfl,keepA ia rfl rfl,keepC ic rfl,iB⟩
  | 1,_=>
   simp at ho
   subst ho
   go_simp
   exact⟨u0,_,u2,u3,u4,u5,u6,u7,u8,u9,u10,u11,rfl,kL i0 rfl,fun _=>rfl,kL i2 rfl,kL i3 rfl,kL i4 rfl,kL i5 rfl,kL i6 rfl,kL i7 rfl,kL i8 rfl,kL i9 rfl,kL i11 rfl,keepA ia rfl rfl,keepC ic rfl,iB⟩
  | 2,_=>
   simp at ho
   subst ho
   obtain rfl:=i1 (hpre 1 (by kernel_rfl))
   go_simp
   exact⟨u0,_,_,u3,u4,u5,u6,u7,u8,u9,u10,u11,rfl,kL i0 rfl,kL i1 rfl,fun _=>rfl,kL i3 rfl,kL i4 rfl,kL i5 rfl,kL i6 rfl,kL i7 rfl,kL i8 rfl,kL i9 rfl,kL i11 rfl,keepA ia rfl rfl,keepC ic rfl,iB⟩
  | 3,_=>
   simp at ho
   subst ho
   obtain rfl:=i2 (hpre 2 (by kernel_rfl))
   go_simp
   exact⟨u0,u1,_,_,u4,u5,u6,u7,u8,u9,u10,u11,rfl,kL i0 rfl,kL i1 rfl,kL i2 rfl,fun _=>rfl,kL i4 rfl,kL i5 rfl,kL i6 rfl,kL i7 rfl,kL i8 rfl,kL i9 rfl,kL i11 rfl,keepA ia rfl rfl,keepC ic rfl,iB⟩
  | 4,_=>
   simp at ho
   subst ho
   obtain rfl:=i3 (hpre 3 (by kernel_rfl))
   have k0:=HGB.out w' iB
   go_simp
   exact⟨u0,u1,u2,_,_,u5,u6,u7,u8,u9,u10,u11,rfl,kL i0 rfl,kL i1 rfl,kL i2 rfl,kL i3 rfl,fun _=>rfl,kL i5 rfl,kL i6 rfl,kL i7 rfl,kL i8 rfl,kL i9 rfl,kL i11 rfl,keepA ia rfl rfl,keepC ic rfl,iB⟩
  | 5,_=>
   simp at ho
   subst ho
   obtain rfl:=i4 (hpre 4 (by kernel_rfl))
   go_simp
   exact⟨u0,u1,u2,u3,_,_,u6,u7,u8,u9,u10,u11,rfl,kL i0 rfl,kL i1 rfl,kL i2 rfl,kL i3 rfl,kL i4 rfl,fun _=>rfl,kL i6 rfl,kL i7 rfl,kL i8 rfl,kL i9 rfl,kL i11 rfl,keepA ia rfl rfl,keepC ic rfl,iB⟩
  | 6,_=>
   simp at ho
   subst ho
   obtain rfl:=i0 (hpre 0 (by kernel_rfl))
   obtain rfl:=i5 (hpre 5 (by kernel_rfl))
   go_simp
   refine(HPUT.out w' iB).mono ?_
   rintro _ w'' ⟨rfl,hbp⟩
   exact⟨_,u1,u2,u3,u4,_,_,u7,u8,u9,u10,u11,rfl,kL i0 rfl,kL i1 rfl,kL i2 rfl,kL i3 rfl,kL i4 rfl,kL i5 rfl,fun _=>rfl,kL i7 rfl,kL i8 rfl,kL i9 rfl,kL i11 rfl,keepA (allocKeep ia hbp) rfl rfl,keepC ic rfl,iB.trans (hbp.mono iB.size)⟩
  | 7,_=>
   simp at ho
   subst ho
   obtain rfl:=i6 (hpre 6 (by kernel_rfl))
   go_simp
   exact⟨u0,u1,u2,u3,u4,u5,_,_,u8,u9,u10,u11,rfl,kL i0 rfl,kL i1 rfl,kL i2 rfl,kL i3 rfl,kL i4 rfl,kL i5 rfl,kL i6 rfl,fun _=>rfl,kL i8 rfl,kL i9 rfl,kL i11 rfl,keepA ia rfl rfl,keepC ic rfl,iB⟩
  | 8,_=>
   simp at ho
   subst ho
   obtain rfl:=i7 (hpre 7 (by kernel_rfl))
   go_simp
   exact⟨u0,u1,u2,u3,u4,u5,u6,_,_,u9,u10,u11,rfl,kL i0 rfl,kL i1 rfl,kL i2 rfl,kL i3 rfl,kL i4 rfl,kL i5 rfl,kL i6 rfl,kL i7 rfl,fun _=>rfl,kL i9 rfl,kL i11 rfl,keepA ia rfl rfl,keepC ic rfl,iB⟩
  | 9,_=>
   simp at ho
   subst ho
   obtain rfl:=i7 (hpre 7 (by kernel_rfl))
   go_simp
   exact⟨u0,u1,u2,u3,u4,u5,u6,_,u8,_,u10,u11,rfl,kL i0 rfl,kL i1 rfl,kL i2 rfl,kL i3 rfl,kL i4 rfl,kL i5 rfl,kL i6 rfl,kL i7 rfl,kL i8 rfl,fun _=>rfl,kL i11 rfl,keepA ia rfl rfl,keepC ic rfl,iB⟩
  | 10,_=>
   simp at ho
   subst ho
   have hn:=heap_alloc_new w' (.cells (bl fun _=>0).toArray 47)
   go_simp
   exact⟨u0,u1,u2,u3,u4,u5,u6,u7,u8,u9,_,u11,rfl,kL i0 rfl,kL i1 rfl,kL i2 rfl,kL i3 rfl,kL i4 rfl,kL i5 rfl,kL i6 rfl,kL i7 rfl,kL i8 rfl,kL i9 rfl,kL i11 rfl,fun _=>⟨_,rfl,iB.size,fun _=>hn,fun h=>absurd (ic h) (by rw[hL]; simp)⟩,fun _=>rfl,iB.alloc iB.size _⟩
  | 11,_=>
   simp at ho
   subst ho
   obtain⟨bk,rfl,hbk,hz,_⟩:=ia (hpre 10 (by kernel_rfl))
   obtain rfl:=i8 (hpre 8 (by kernel_rfl))
   have hz0:=hz hL
   refine wp_store_row 47 (.tmp 6) (.tmp 24) rfl bk (bl V).toArray rfl rfl 47 _ hz0 (size_bl' _) rfl (bl_all _) ?_
   have hz1:=setRow_heap w' bk _ (bl V).toArray 47 (0,0) hz0
   exact⟨u0,u1,u2,u3,u4,u5,u6,u7,_,u9,_,u11,rfl,kL i0 rfl,kL i1 rfl,kL i2 rfl,kL i3 rfl,kL i4 rfl,kL i5 rfl,kL i6 rfl,kL i7 rfl,kL i8 rfl,kL i9 rfl,kL i11 rfl,fun _=>⟨bk,rfl,hbk,fun h=>by simp at h,fun _=>hz1⟩,fun _=>by show(10 == 11 || L 10)=true; rw[hpre 10 (by kernel_rfl)]; rfl,iB.trans ⟨rfl,rfl,rfl,by simp,fun k hk=>setRow_other w' bk k _ (by omega)⟩⟩
  | 12,_=>
   simp at ho
   subst ho
   obtain rfl:=i9 (hpre 9 (by kernel_rfl))
   go_simp
   exact⟨u0,u1,u2,u3,u4,u5,u6,u7,u8,_,u10,_,rfl,kL i0 rfl,kL i1 rfl,kL i2 rfl,kL i3 rfl,kL i4 rfl,kL i5 rfl,kL i6 rfl,kL i7 rfl,kL i8 rfl,kL i9 rfl,fun _=>rfl,keepA ia rfl rfl,keepC ic rfl,iB⟩
  | i+13,h=>omega
 case fin=>
  rintro L a' w5 hall ⟨u0,u1,u2,u3,u4,u5,u6,u7,u8,u9,u10,u11,rfl,i0,i1,i2,i3,i4,i5,i6,i7,i8,i9,i11,ia,ic,iB⟩
  obtain rfl:=i0 (hall 0 (by omega))
  obtain rfl:=i1 (hall 1 (by omega))
  obtain rfl:=i2 (hall 2 (by omega))
  obtain rfl:=i3 (hall 3 (by omega))
  obtain rfl:=i4 (hall 4 (by omega))
  obtain rfl:=i5 (hall 5 (by omega))
  obtain rfl:=i6 (hall 6 (by omega))
  obtain rfl:=i7 (hall 7 (by omega))
  obtain rfl:=i8 (hall 8 (by omega))
  obtain rfl:=i9 (hall 9 (by omega))
  obtain rfl:=i11 (hall 12 (by omega))
  obtain⟨bk,rfl,hbk,_,hbV'⟩:=ia (hall 10 (by omega))
  have hbV:=hbV' (hall 11 (by omega))
  clear i0 i1 i2 i3 i4 i5 i6 i7 i8 i9 i11 ia ic hbV' hall
  simp only[List.drop_succ_cons,List.drop_zero]
  have hB5:Below w.heap.size w w5:=hB2.trans (iB.mono (by omega))
  have hr5:=(iB.block w.heap.size (by omega)).trans hr2
  have ht5:=(iB.block w1.heap.size (by omega)).trans ht2
  have HI:Hid (w.grownBy w5 (some g.b)∧HasD w5 g n (fmS n hh V X 0)∧w5.heap[w.heap.size]?=some (.cells #[.int .i64 0,.slice none 0 0] 37 (0,0))∧w5.heap[w1.heap.size]?=some (.cells #[.int .i64 0,.slice none 0 0] 37 (0,0))∧w5.heap[bk]?=some (.cells (bl V).toArray 47 (0,0))∧∀c',c' < 0→fmC n hh V X c'=0):=
   Lib.hid ⟨oB hB5,HD.out.below hB5,hr5,ht5,hbV,fun c' h=>by omega⟩
  clear hB5 hr5 ht5 hbV iB hr2 ht2 hB2 hb2 HPUT HTB HGB
  go_wp2_with fail
  go_loopw [26] (fun i wr=>∃c:Nat,c≤2∧i=.int .i64 c∧Hid (w.grownBy wr (some g.b)∧HasD wr g n (fmS n hh V X c)∧wr.heap[w.heap.size]?=some (.cells #[.int .i64 0,.slice none 0 0] 37 (0,0))∧wr.heap[w1.heap.size]?=some (.cells #[.int .i64 0,.slice none 0 0] 37 (0,0))∧wr.heap[bk]?=some (.cells (bl V).toArray 47 (0,0))∧∀c',c' < c→fmC n hh V X c'=0)) (fun i _=>2 - (intOf i).toNat)
  case atStart=>exact⟨0,by omega,rfl,HI⟩
  case round=>
   clear HI
   obtain⟨c,hc,rfl,hR⟩:=hrel
   obtain⟨hG,hD,hr,ht,hv,hz⟩:=hR.out
   have hOKc:=fmS_ok (n:=n) (hh:=hh) (V:=V) HOK.out c hc
   have hHZ:=Lib.hid hz
   have hc0:(0:Int)≤(c:Int):=by omega
   clear hR hz
   by_cases hlt:c < 2
   ·have hc1:(c:Int) < 2:=by omega
    have hg1:=hD.lt
    have HDw:=Lib.hid (fun w' (hw':Below wr.heap.size wr w')=>hD.below hw')
    have HGw:=Lib.hid hG
    have lt1:w1.heap.size < wr.heap.size:=(Array.getElem?_eq_some_iff.1 ht).1
    have ltb:bk < wr.heap.size:=(Array.getElem?_eq_some_iff.1 hv).1
    have ltr:w.heap.size < wr.heap.size:=(Array.getElem?_eq_some_iff.1 hr).1
    have hgt:g≠w1.heap.size:=by omega
    have HKS:=Lib.hid (fun(u:World) (hu:wr.grownBy u (some g.b))=>And.intro (And.intro ((hu.block w.heap.size ltr (by simp; omega)).trans hr) ((hu.block w1.heap.size lt1 (by simp; omega)).trans ht)) ((hu.block bk ltb (by simp; omega)).trans hv))
    have HS:=Lib.hid (fun(u:World) (hu:wr.grownBy u (some g.b))=>show u.cell? ⟨w1.heap.size,0,none⟩=some (.int .i64 0)∧u.rangeAt bk 0 (bl V) from
     ⟨by rw[cell_of_row _ _ _ _ _ _ (HKS.out u hu).1.2]; rfl,fun j v hj=>by rw[cell_of_row _ _ _ _ _ _ (HKS.out u hu).2,Nat.zero_add]; simpa using hj⟩)
    have HOKc:Hid (Ok 1 (fmS n hh V X c)):=Lib.hid (hOKc.less (by omega))
    have hdr:Below wr.heap.size wr wr.drew:=⟨rfl,rfl,rfl,Nat.le_refl _,fun _ _=>rfl⟩
    obtain⟨s0,s1⟩:=HS.out wr.drew (oB hdr)
    have und:=und29
    have hl2:=sB V
    have hl3:=bL V
    have hl1:=bl_one V
    clear hOKc hD hG hr ht hv
    go_wp2_with fail
    go_region_held3 (fun w'=>w'.cell? ⟨w1.heap.size,0,none⟩=some (.int .i64 0)∧w'.rangeAt bk 0 (bl V))
     (first
      | exact⟨s0,s1⟩
      | exact HS.out w6 (oB (hdr.trans hb6))
      | exact HS.out w7 (Dk.oT (oB (hdr.trans hb6)) hg7))
     (first
      | ((go_at_call 93; refine(tableAt_zero hh c _ (by omega) (by omega) (by omega) (by omega)).mono ?_; rintro _ w6 ⟨rfl,hb6⟩))
      | ((go_at_call 92; refine(write_d (by exact HDw.out w6 (hdr.trans hb6)) (by exact HOKc.out) _ _).mono ?_; rintro _ w7 ⟨rfl,hg7,hD7⟩)))
    have hG7:wr.grownBy w7 (some g.b):=Dk.oT (oB (hdr.trans hb6)) hg7
    obtain⟨⟨hr7,ht7⟩,hv7⟩:=HKS.out w7 hG7
    have hGG:=Dk.oT HGw.out hG7
    have hne:g≠w.heap.size:=by omega
    clear HS HKS s0 s1 hg7 hb6 hdr HDw hl1 hl2 hl3 und
    have hEc:fmC n hh V X c=dWrE n (fmS n hh V X c) (c * hh):=rfl
    generalize dWrE n (fmS n hh V X c) (c * hh)=Ec at hEc ⊢
    have HEc:=Lib.hid hEc
    clear hEc
    by_cases ez:Ec=0
    ·have HN:Hid (w.grownBy w7 (some g.b)∧HasD w7 g n (fmS n hh V X (c+1))∧w7.heap[w.heap.size]?=some (.cells #[.int .i64 0,.slice none 0 0] 37 (0,0))∧w7.heap[w1.heap.size]?=some (.cells #[.int .i64 0,.slice none 0 0] 37 (0,0))∧w7.heap[bk]?=some (.cells (bl V).toArray 47 (0,0))∧∀c',c' < c+1→fmC n hh V X c'=0):=
      Lib.hid ⟨hGG,hD7,hr7,ht7,hv7,fun c' h=>by
       by_cases e:c'=c
       ·subst e; rw[HEc.out,ez]
       ·exact hHZ.out c' (by omega)⟩
     subst ez
     clear hr7 ht7 hv7 hGG hG7 hD7 HGw hHZ HEc HOKc
     go_wp2_with fail
     go_roundw
     case rel=>exact⟨c+1,by omega,by go_num,HN⟩
     case measure=>simp[intOf]; omega
    ·have HR:=Lib.hid (HF.out.2.1 e0 c hlt hHZ.out (by rw[HEc.out]; exact ez))
     have ne:(Ec == 0)=false:=by simpa using ez
     clear ez
     go_wp2_with (refine wpList_store_row rfl 37 (.tmp 2) (.tmp 39) rfl w.heap.size #[.int .i64 0,.slice none 0 0] rfl rfl 37 _ hr7 (by kernel_rfl) rfl rm_one ?_; simp only[Act.put])
     have hr8:=setRow_heap w7 w.heap.size _ #[.int .i64 0,.slice none 0 0] 37 (0,0) hr7
     refine bodyPost_ret (results_fm rfl rfl rfl hr8) rfl ?_
     exact⟨by rw[HR.out.1,HEc.out],gR hGG (Nat.le_refl _) _,by rw[HR.out.2]; exact hD7.row hr7 hne _⟩
   ·obtain rfl:c=2:=by omega
    have HR:=Lib.hid (HF.out.2.2 e0 hHZ.out)
    have HG:=Lib.hid hG
    have ltr:w.heap.size < wr.heap.size:=(Array.getElem?_eq_some_iff.1 hr).1
    have lt1:w1.heap.size < wr.heap.size:=(Array.getElem?_eq_some_iff.1 ht).1
    have hne:g≠w.heap.size:=by omega
    go_wp2_with fail
    refine(flush_d hD (hOKc.less (by omega))).mono ?_
    rintro _ w6 ⟨rfl,hg6,hD6⟩
    have hr6:=(hg6.block w.heap.size ltr (by simp; omega)).trans hr
    have ht6:=(hg6.block w1.heap.size lt1 (by simp; omega)).trans ht
    have hGG:=Dk.oT HG.out hg6
    have HFI:=Lib.hid (show dFlE n (fmS n hh V X 2)=dFlE n (fmS n hh V X 2) from rfl)
    generalize dFlE n (fmS n hh V X 2)=Ef at HR HFI ⊢
    clear hg6 hD hG hr ht hv hHZ HFI
    dsimp only
    by_cases ez:Ef=0
    ·have HR1:Hid (FE=0):=Lib.hid (by rw[HR.out.1,ez])
     have HR2:=Lib.hid HR.out.2
     subst ez
     have k0:w6.cell? ⟨w1.heap.size,0,none⟩=some (.int .i64 0):=by rw[cell_of_row _ _ _ _ _ _ ht6]; rfl
     have k1:w6.cell? ⟨w1.heap.size,1,none⟩=some (.slice none 0 0):=by rw[cell_of_row _ _ _ _ _ _ ht6]; rfl
     go_wp2_with (refine wpList_store_row rfl 37 (.tmp 2) (.tmp 48) rfl w.heap.size #[.int .i64 0,.slice none 0 0] rfl rfl 37 _ hr6 (by kernel_rfl) rfl rm_one ?_; simp only[Act.put])
     have hr8:=setRow_heap w6 w.heap.size _ #[.int .i64 0,.slice none 0 0] 37 (0,0) hr6
     refine bodyPost_ret (results_fm rfl rfl rfl hr8) rfl ?_
     exact⟨by rw[HR1.out],gR hGG (Nat.le_refl _) _,by rw[HR2.out]; exact hD6.row hr6 hne _⟩
    ·have ne:(Ef == 0)=false:=by simpa using ez
     clear ez
     go_wp2_with (refine wpList_store_row rfl 37 (.tmp 2) (.tmp 46) rfl w.heap.size #[.int .i64 0,.slice none 0 0] rfl rfl 37 _ hr6 (by kernel_rfl) rfl rm_one ?_; simp only[Act.put])
     have hr8:=setRow_heap w6 w.heap.size _ #[.int .i64 0,.slice none 0 0] 37 (0,0) hr6
     refine bodyPost_ret (results_fm rfl rfl rfl hr8) rfl ?_
     exact⟨by rw[HR.out.1],gR hGG (Nat.le_refl _) _,by rw[HR.out.2]; exact hD6.row hr6 hne _⟩
end Rm
namespace Rm
open Go.RowKit Dk Byt
attribute [local go_sem] zv29
attribute [local go_sem] zc29
def YInv(x1 x2 x4 x7 x8 x9 x10 x21 x22 x23 x24 x25 x26 x27 x28 x29 x30 x31 x32 x33 x34 x35 x36 x37 x38 x39 x40 x41 x42 x43 x44 x45 x46 x47:Value)(gen:Int)(ta:Option Addr)(tk tc tb:Nat)(g:Pl)(n:Nat)(sa:Option Addr)(sc:Nat)(V:Nat→Int)(E:Int)(w0:World)(L:Nat→Bool)(a':Act)(w':World):Prop:=
 ∃u0 u1 u2 u3 u4 u5 u6 u7 u8 u9 u10 u11,a'={ tmps:=#[.pointer (some ⟨g.b,g.o,none⟩),x1,x2,.pointer (some ⟨tb,0,none⟩),x4,u10,u11,x7,x8,x9,x10,u7,u0,u1,u2,u3,u4,u5,u6,u8,u9,x21,x22,x23,x24,x25,x26,x27,x28,x29,x30,x31,x32,x33,x34,x35,x36,x37,x38,x39,x40,x41,x42,x43,x44,x45,x46,x47],defers:=[] }∧(L 0=true→u0=.agg #[.int .i64 gen,.slice ta tk tc])∧(L 1=true→u1=.pointer (some ⟨g.b,g.o,none⟩))∧(L 2=true→u2=.pointer (some ⟨g.b,g.o,none⟩))∧(L 3=true→u3=.pointer (some ⟨g.b,g.o,none⟩))∧(L 4=true→u4=.slice sa n sc)∧(L 5=true→u5=.int .i64 n)∧(L 6=true→u6=.tuple #[.agg (bl V).toArray,.int .i64 E])∧(L 7=true→u7=.tuple #[.agg (bl V).toArray,.int .i64 E])∧(L 8=true→u8=.agg (bl V).toArray)∧(L 9=true→u9=.int .i64 E)∧(L 12=true→u11=.int .i64 E)∧(L 10=true→∃bk,u10=.pointer (some ⟨bk,0,none⟩)∧w0.heap.size≤bk∧(L 11=false→w'.heap[bk]?=some (.cells (bl fun _=>0).toArray 47 (0,0)))∧(L 11=true→w'.heap[bk]?=some (.cells (bl V).toArray 47 (0,0))))∧(L 11=true→L 10=true)∧Below w0.heap.size w0 w'
def lyS(n:Nat)(hh r:Int)(V:Nat→Int)(X:Dst):Nat→Dst
 | 0=>X
 | c+1=>dWr n (lyS n hh r V X c) (c * hh+r) V
def lyC(n:Nat)(hh r:Int)(V:Nat→Int)(X:Dst)(c:Nat):Int:=dWrE n (lyS n hh r V X c) (c * hh+r)
def lyN(n:Nat)(hh r:Int)(V:Nat→Int)(X:Dst):Nat→Nat
 | 0=>0
 | c+1=>if lyC n hh r V X c=2 then lyN n hh r V X c+1 else lyN n hh r V X c
def bad(e:Int):Prop:=e≠0∧e≠2
instance (e:Int):Decidable (bad e):=by unfold bad; infer_instance
def lyE'(n:Nat)(hh r:Int)(V:Nat→Int)(X:Dst):Int:=if bad (lyC n hh r V X 0) then lyC n hh r V X 0 else if bad (lyC n hh r V X 1) then lyC n hh r V X 1 else if lyN n hh r V X 2=2 then 2 else 0
def lyX'(n:Nat)(hh r:Int)(V:Nat→Int)(X:Dst):Dst:=if bad (lyC n hh r V X 0) then lyS n hh r V X 1 else lyS n hh r V X 2
def lyE(n:Nat)(X:Dst)(gen:Int)(k:Nat)(F T:Nat→Int):Int:=if putEr n gen k F T=0 then lyE' n (hfN n X) (gen % 2) (putV n gen k F T) X else putEr n gen k F T
def lyX(n:Nat)(X:Dst)(gen:Int)(k:Nat)(F T:Nat→Int):Dst:=if putEr n gen k F T=0 then lyX' n (hfN n X) (gen % 2) (putV n gen k F T) X else X
theorem ly_bad{n:Nat}{hh r:Int}{V:Nat→Int}{X:Dst}:∀c,c < 2→(∀c',c' < c→¬ bad (lyC n hh r V X c'))→bad (lyC n hh r V X c)→lyE' n hh r V X=lyC n hh r V X c∧lyX' n hh r V X=lyS n hh r V X (c+1)
 | 0,_,_,h=>by unfold lyE' lyX'; rw[if_pos h,if_pos h]; exact⟨rfl,rfl⟩
 | 1,_,h1,h=>by unfold lyE' lyX'; rw[if_neg (h1 0 (by omega)),if_neg (h1 0 (by omega)),if_pos h]; exact⟨rfl,rfl⟩
theorem ly_end{n:Nat}{hh r:Int}{V:Nat→Int}{X:Dst}(h:∀c',c' < 2→¬ bad (lyC n hh r V X c')):lyE' n hh r V X=(if lyN n hh r V X 2=2 then 2 else 0)∧lyX' n hh r V X=lyS n hh r V X 2:=by
 unfold lyE' lyX'
 rw[if_neg (h 0 (by omega)),if_neg (h 0 (by omega)),if_neg (h 1 (by omega))]
 exact⟨rfl,rfl⟩
theorem lyN_le{n:Nat}{hh r:Int}{V:Nat→Int}{X:Dst}:∀c,lyN n hh r V X c≤c
 | 0=>Nat.le_refl _
 | c+1=>by
  have:=lyN_le (n:=n) (hh:=hh) (r:=r) (V:=V) (X:=X) c
  simp only[lyN]
  split <;> omega
theorem lyS_ok{n:Nat}{hh r:Int}{V:Nat→Int}{X:Dst}(h:Ok 2 X):∀c,c≤2→Ok (2 - c) (lyS n hh r V X c)
 | 0,_=>h
 | c+1,hc=>by
  have:=lyS_ok (n:=n) (hh:=hh) (r:=r) (V:=V) h c (by omega)
  rw[show 2 - c=(2 - (c+1))+1 by omega] at this
  exact this.wr
theorem lay_d{w:World}{g:Pl}{n:Nat}{X:Dst}(h:HasD w g n X)(hok:Ok 2 X)(hk:Kp w)(gen:Int)(k:Nat)(F T:Nat→Int)(pa:Option Addr)(cap q:Nat)(hl:Lay w w.heap.size q pa k cap 2 (prV F T))(hk47:k≤140737488355328)(hF:∀i,i < k→i64 (F i)∧i64 (T i)) :
  Calls Tryz.prog 164 #[.pointer (some ⟨g.b,g.o,none⟩),.agg #[.int .i64 gen,.slice pa k cap]] w (Did w g n (lyE n X gen k F T) (lyX n X gen k F T)):=by
 unfold Did
 have HD:=Lib.hid h
 have HL:=Lib.hid hl
 have hgl:=h.lt
 have HOK:=Lib.hid hok
 have HKP:=Lib.hid hk
 have hbd:=hfN_bd n X
 have HHA:=Lib.hid (fun W h=>half_d (w:=W) (g:=g) (n:=n) (X:=X) h)
 have HPU:=Lib.hid (fun W hl hkp=>put_any n gen k F T pa cap q W hl hk47 hF hkp)
 have HE:Hid (lyE n X gen k F T=if putEr n gen k F T=0 then lyE' n (hfN n X) (gen % 2) (putV n gen k F T) X else putEr n gen k F T):=Lib.hid rfl
 have HX:Hid (lyX n X gen k F T=if putEr n gen k F T=0 then lyX' n (hfN n X) (gen % 2) (putV n gen k F T) X else X):=Lib.hid rfl
 have HGE:Hid (putEr n gen k F T=0→0≤gen∧gen≤4611686018427387904):=Lib.hid (fun he=>by
  cases e:rightB n gen k F T with
  | true=>obtain⟨_,h1,h2,_⟩:=right_parts e; exact⟨h1,h2⟩
  | false=>unfold putEr at he; rw[e] at he; simp at he)
 clear h hok hk hl
 generalize lyE n X gen k F T=FE at HE ⊢
 generalize lyX n X gen k F T=FX at HX ⊢
 generalize hfN n X=hh at hbd HHA HE HX
 generalize putEr n gen k F T=E at HPU HE HX HGE
 generalize putV n gen k F T=V at HPU HE HX
 go_enter Tryz.func164,Tryz.ntmps164
 go_wp2_with fail
 generalize hW:w.alloc (.cells #[.int .i64 gen,.slice pa k cap] 37)=w2
 have hB2:Below w.heap.size w w2:=by rw[←hW]; exact(Below.refl _ _).alloc (Nat.le_refl _) _
 have ht2:w2.heap[w.heap.size]?=some (.cells #[.int .i64 gen,.slice pa k cap] 37 (0,0)):=by rw[←hW]; exact heap_alloc_new _ _
 have hs2:w2.heap.size=w.heap.size+1:=by rw[←hW]; simp
 clear hW
 obtain⟨sa,sc,ca,cc,hH2⟩:=HD.out.below hB2
 have c0:=hH2.bx.c0
 have hgl2:=hH2.bx.lt
 have HGB:=Lib.hid (fun w' (hw':Below w2.heap.size w2 w')=>(hw'.cell (p:=⟨g.b,g.o,none⟩) hgl2).trans c0)
 have HTB:=Lib.hid (fun w' (hw':Below w2.heap.size w2 w')=>show w'.cell? ⟨w.heap.size,0,none⟩=some (.int .i64 gen)∧w'.cell? ⟨w.heap.size,1,none⟩=some (.slice pa k cap) from
  ⟨(hw'.cell (p:=⟨w.heap.size,0,none⟩) (show w.heap.size < w2.heap.size by omega)).trans (by rw[cell_of_row _ _ _ _ _ _ ht2]; rfl),(hw'.cell (p:=⟨w.heap.size,1,none⟩) (show w.heap.size < w2.heap.size by omega)).trans (by rw[cell_of_row _ _ _ _ _ _ ht2]; rfl)⟩)
 have HPUT:=Lib.hid (fun w' (hw':Below w2.heap.size w2 w')=>HPU.out w' ((((HL.out.below hB2).more hB2.size).below hw').more hw'.size) ((HKP.out.below hB2).below hw'))
 clear hH2 c0 HPU
 refine QuietTail2.regionInv (n:=13) (Inv:=YInv _ _ _ _ _ _ _ _ _ _ _ _ _ _ _ _ _ _ _ _ _ _ _ _ _ _ _ _ _ _ _ _ _ _ gen pa k cap w.heap.size g n sa sc V E w2) (by kernel_rfl) (by decide) (by kernel_rfl) ⟨_,_,_,_,_,_,_,_,_,_,_,_,rfl,by simp,by simp,by simp,by simp,by simp,by simp,by simp,by simp,by simp,by simp,by simp,by simp,by simp,⟨rfl,rfl,rfl,Nat.le_refl _,fun _ _=>rfl⟩⟩ ?step ?fin
 case step=>
  rintro i o hi ho L a' w' ⟨u0,u1,u2,u3,u4,u5,u6,u7,u8,u9,u10,u11,rfl,i0,i1,i2,i3,i4,i5,i6,i7,i8,i9,i11,ia,ic,iB⟩ hL hpre
  match i,hi with
  | 0,_=>
   simp at ho
   subst ho
   obtain⟨k0,k1⟩:=HTB.out w' iB
   go_simp
   exact⟨_,u1,u2,u3,u4,u5,u6,u7,u8,u9,u10,u11,rfl,fun _=>rfl,kL i1 rfl,kL i2 rfl,kL i3 rfl,kL i4 rfl,kL i5 rfl,kL i6 rfl,kL i7 rfl,kL i8 rfl,kL i9 rfl,kL i11 rfl,keepA ia rfl rfl,keepC ic rfl,iB⟩
  | 1,_=>
   simp at ho
   subst ho
   go_simp
   exact⟨u0,_,u2,u3,u4,u5,u6,u7,u8,u9,u10,u11,rfl,kL i0 rfl,fun _=>rfl,kL i2 rfl,kL i3 rfl,kL i4 rfl,kL i5 rfl,kL i6 rfl,kL i7 rfl,kL i8 rfl,kL i9 rfl,kL i11 rfl,keepA ia rfl rfl,keepC ic rfl,iB⟩
  | 2,_=>
   simp at ho
   subst ho
   obtain rfl:=i1 (hpre 1 (by kernel_rfl))
   go_simp
   exact⟨u0,_,_,u3,u4,u5,u6,u7,u8,u9,u10,u11,rfl,kL i0 rfl,kL i1 rfl,fun _=>rfl,kL i3 rfl,kL i4 rfl,kL i5 rfl,kL i6 rfl,kL i7 rfl,kL i8 rfl,kL i9 rfl,kL i11 rfl,keepA ia rfl rfl,keepC ic rfl,iB⟩
  | 3,_=>
   simp at ho
   subst ho
   obtain rfl:=i2 (hpre 2 (by kernel_rfl))
   go_simp
   exact⟨u0,u1,_,_,u4,u5,u6,u7,u8,u9,u10,u11,rfl,kL i0 rfl,kL i1 rfl,kL i2 rfl,fun _=>rfl,kL i4 rfl,kL i5 rfl,kL i6 rfl,kL i7 rfl,kL i8 rfl,kL i9 rfl,kL i11 rfl,keepA ia rfl rfl,keepC ic rfl,iB⟩
  | 4,_=>
   simp at ho
   subst ho
   obtain rfl:=i3 (hpre 3 (by kernel_rfl))
   have k0:=HGB.out w' iB
   go_simp
   exact⟨u0,u1,u2,_,_,u5,u6,u7,u8,u9,u10,u11,rfl,kL i0 rfl,kL i1 rfl,kL i2 rfl,kL i3 rfl,fun _=>rfl,kL i5 rfl,kL i6 rfl,kL i7 rfl,kL i8 rfl,kL i9 rfl,kL i11 rfl,keepA ia rfl rfl,keepC ic rfl,iB⟩
  | 5,_=>
   simp at ho
   subst ho
   obtain rfl:=i4 (hpre 4 (by kernel_rfl))
   go_simp
   exact⟨u0,u1,u2,u3,_,_,u6,u7,u8,u9,u10,u11,rfl,kL i0 rfl,kL i1 rfl,kL i2 rfl,kL i3 rfl,kL i4 rfl,fun _=>rfl,kL i6 rfl,kL i7 rfl,kL i8 rfl,kL i9 rfl,kL i11 rfl,keepA ia rfl rfl,keepC ic rfl,iB⟩
  | 6,_=>
   simp at ho
   subst ho
   obtain rfl:=i0 (hpre 0 (by kernel_rfl))
   obtain rfl:=i5 (hpre 5 (by kernel_rfl))
   go_simp
   refine(HPUT.out w' iB).mono ?_
   rintro _ w'' ⟨rfl,hbp⟩
   exact⟨_,u1,u2,u3,u4,_,_,u7,u8,u9,u10,u11,rfl,kL i0 rfl,kL i1 rfl,kL i2 rfl,kL i3 rfl,kL i4 rfl,kL i5 rfl,fun _=>rfl,kL i7 rfl,kL i8 rfl,kL i9 rfl,kL i11 rfl,keepA (allocKeep ia hbp) rfl rfl,keepC ic rfl,iB.trans (hbp.mono iB.size)⟩
  | 7,_=>
   simp at ho
   subst ho
   obtain rfl:=i6 (hpre 6 (by kernel_rfl))
   go_simp
   exact⟨u0,u1,u2,u3,u4,u5,_,_,u8,u9,u10,u11,rfl,kL i0 rfl,kL i1 rfl,kL i2 rfl,kL i3 rfl,kL i4 rfl,kL i5 rfl,kL i6 rfl,fun _=>rfl,kL i8 rfl,kL i9 rfl,kL i11 rfl,keepA ia rfl rfl,keepC ic rfl,iB⟩
  | 8,_=>
   simp at ho
   subst ho
   obtain rfl:=i7 (hpre 7 (by kernel_rfl))
   go_simp
   exact⟨u0,u1,u2,u3,u4,u5,u6,_,_,u9,u10,u11,rfl,kL i0 rfl,kL i1 rfl,kL i2 rfl,kL i3 rfl,kL i4 rfl,kL i5 rfl,kL i6 rfl,kL i7 rfl,fun _=>rfl,kL i9 rfl,kL i11 rfl,keepA ia rfl rfl,keepC ic rfl,iB⟩
  | 9,_=>
   simp at ho
   subst ho
   obtain rfl:=i7 (hpre 7 (by kernel_rfl))
   go_simp
   exact⟨u0,u1,u2,u3,u4,u5,u6,_,u8,_,u10,u11,rfl,kL i0 rfl,kL i1 rfl,kL i2 rfl,kL i3 rfl,kL i4 rfl,kL i5 rfl,kL i6 rfl,kL i7 rfl,kL i8 rfl,fun _=>rfl,kL i11 rfl,keepA ia rfl rfl,keepC ic rfl,iB⟩
  | 10,_=>
   simp at ho
   subst ho
   have hn:=heap_alloc_new w' (.cells (bl fun _=>0).toArray 47)
   go_simp
   exact⟨u0,u1,u2,u3,u4,u5,u6,u7,u8,u9,_,u11,rfl,kL i0 rfl,kL i1 rfl,kL i2 rfl,kL i3 rfl,kL i4 rfl,kL i5 rfl,kL i6 rfl,kL i7 rfl,kL i8 rfl,kL i9 rfl,kL i11 rfl,fun _=>⟨_,rfl,iB.size,fun _=>hn,fun h=>absurd (ic h) (by rw[hL]; simp)⟩,fun _=>rfl,iB.alloc iB.size _⟩
  | 11,_=>
   simp at ho
   subst ho
   obtain⟨bk,rfl,hbk,hz,_⟩:=ia (hpre 10 (by kernel_rfl))
   obtain rfl:=i8 (hpre 8 (by kernel_rfl))
   have hz0:=hz hL
   refine wp_store_row 47 (.tmp 5) (.tmp 19) rfl bk (bl V).toArray rfl rfl 47 _ hz0 (size_bl' _) rfl (bl_all _) ?_
   have hz1:=setRow_heap w' bk _ (bl V).toArray 47 (0,0) hz0
   exact⟨u0,u1,u2,u3,u4,u5,u6,u7,_,u9,_,u11,rfl,kL i0 rfl,kL i1 rfl,kL i2 rfl,kL i3 rfl,kL i4 rfl,kL i5 rfl,kL i6 rfl,kL i7 rfl,kL i8 rfl,kL i9 rfl,kL i11 rfl,fun _=>⟨bk,rfl,hbk,fun h=>by simp at h,fun _=>hz1⟩,fun _=>by show(10 == 11 || L 10)=true; rw[hpre 10 (by kernel_rfl)]; rfl,iB.trans ⟨rfl,rfl,rfl,by simp,fun k hk=>setRow_other w' bk k _ (by omega)⟩⟩
  | 12,_=>
   simp at ho
   subst ho
   obtain rfl:=i9 (hpre 9 (by kernel_rfl))
   go_simp
   exact⟨u0,u1,u2,u3,u4,u5,u6,u7,u8,_,u10,_,rfl,kL i0 rfl,kL i1 rfl,kL i2 rfl,kL i3 rfl,kL i4 rfl,kL i5 rfl,kL i6 rfl,kL i7 rfl,kL i8 rfl,kL i9 rfl,fun _=>rfl,keepA ia rfl rfl,keepC ic rfl,iB⟩
  | i+13,h=>omega
 case fin=>
  rintro L a' w5 hall ⟨u0,u1,u2,u3,u4,u5,u6,u7,u8,u9,u10,u11,rfl,i0,i1,i2,i3,i4,i5,i6,i7,i8,i9,i11,ia,ic,iB⟩
  obtain rfl:=i0 (hall 0 (by omega))
  obtain rfl:=i1 (hall 1 (by omega))
  obtain rfl:=i2 (hall 2 (by omega))
  obtain rfl:=i3 (hall 3 (by omega))
  obtain rfl:=i4 (hall 4 (by omega))
  obtain rfl:=i5 (hall 5 (by omega))
  obtain rfl:=i6 (hall 6 (by omega))
  obtain rfl:=i7 (hall 7 (by omega))
  obtain rfl:=i8 (hall 8 (by omega))
  obtain rfl:=i9 (hall 9 (by omega))
  obtain rfl:=i11 (hall 12 (by omega))
  obtain⟨bk,rfl,hbk,_,hbV'⟩:=ia (hall 10 (by omega))
  have hbV:=hbV' (hall 11 (by omega))
  clear i0 i1 i2 i3 i4 i5 i6 i7 i8 i9 i11 ia ic hbV' hall
  simp only[List.drop_succ_cons,List.drop_zero]
  have hB5:Below w.heap.size w w5:=hB2.trans (iB.mono (by omega))
  have ht5:=(iB.block w.heap.size (by omega)).trans ht2
  have hs5:=iB.size
  have hltb:bk < w5.heap.size:=(Array.getElem?_eq_some_iff.1 hbV).1
  have hD5:=HD.out.below hB5
  clear iB ht2 hB2 HPUT HTB HGB
  by_cases eE:E=0
  ·obtain⟨g0,g1⟩:=HGE.out eE
   have HFE:Hid (FE=lyE' n hh (gen % 2) V X):=Lib.hid (by rw[HE.out,if_pos eE])
   have HFX:Hid (FX=lyX' n hh (gen % 2) V X):=Lib.hid (by rw[HX.out,if_pos eE])
   subst eE
   clear HE HX HGE
   go_wp2_with fail
   refine(HHA.out w5 hD5).mono ?_
   rintro _ w6 ⟨rfl,hb6⟩
   have hB6:=hB5.trans (hb6.mono hB5.size)
   have ht6:=(hb6.block w.heap.size (by omega)).trans ht5
   have hv6:=(hb6.block bk hltb).trans hbV
   have HI:Hid (w.grownBy w6 (some g.b)∧HasD w6 g n (lyS n hh (gen % 2) V X 0)∧w6.heap[w.heap.size]?=some (.cells #[.int .i64 gen,.slice pa k cap] 37 (0,0))∧w6.heap[bk]?=some (.cells (bl V).toArray 47 (0,0))∧∀c',c' < 0→¬ bad (lyC n hh (gen % 2) V X c')):=
    Lib.hid ⟨oB hB6,HD.out.below hB6,ht6,hv6,fun c' h=>by omega⟩
   clear hB5 hB6 ht5 ht6 hbV hv6 hD5 hb6 HHA
   dsimp only
   go_wp2_with fail
   go_loopw [8,26] (fun u i wr=>∃c:Nat,c≤2∧i=.int .i64 c∧u=.int .i64 (lyN n hh (gen % 2) V X c)∧Hid (w.grownBy wr (some g.b)∧HasD wr g n (lyS n hh (gen % 2) V X c)∧wr.heap[w.heap.size]?=some (.cells #[.int .i64 gen,.slice pa k cap] 37 (0,0))∧wr.heap[bk]?=some (.cells (bl V).toArray 47 (0,0))∧∀c',c' < c→¬ bad (lyC n hh (gen % 2) V X c'))) (fun _ i _=>2 - (intOf i).toNat)
   case atStart=>exact⟨0,by omega,rfl,rfl,HI⟩
   case round=>
    clear HI
    obtain⟨c,hc,rfl,rfl,hR⟩:=hrel
    obtain⟨hG,hD,ht,hv,hz⟩:=hR.out
    have hOKc:=lyS_ok (n:=n) (hh:=hh) (r:=gen % 2) (V:=V) HOK.out c hc
    have hNc:=lyN_le (n:=n) (hh:=hh) (r:=gen % 2) (V:=V) (X:=X) c
    have hHZ:=Lib.hid hz
    have hc0:(0:Int)≤(c:Int):=by omega
    clear hR hz
    by_cases hlt:c < 2
    ·have hc1:(c:Int) < 2:=by omega
     have HDw:=Lib.hid (fun w' (hw':Below wr.heap.size wr w')=>hD.below hw')
     have HGw:=Lib.hid hG
     have lt1:w.heap.size < wr.heap.size:=(Array.getElem?_eq_some_iff.1 ht).1
     have ltb:bk < wr.heap.size:=(Array.getElem?_eq_some_iff.1 hv).1
     have HKS:=Lib.hid (fun(u:World) (hu:wr.grownBy u (some g.b))=>And.intro ((hu.block w.heap.size lt1 (by simp; omega)).trans ht) ((hu.block bk ltb (by simp; omega)).trans hv))
     have HS:=Lib.hid (fun(u:World) (hu:wr.grownBy u (some g.b))=>show u.cell? ⟨w.heap.size,0,none⟩=some (.int .i64 gen)∧u.rangeAt bk 0 (bl V) from
      ⟨by rw[cell_of_row _ _ _ _ _ _ (HKS.out u hu).1]; rfl,fun j v hj=>by rw[cell_of_row _ _ _ _ _ _ (HKS.out u hu).2,Nat.zero_add]; simpa using hj⟩)
     have HOKc:Hid (Ok 1 (lyS n hh (gen % 2) V X c)):=Lib.hid (hOKc.less (by omega))
     have hdr:Below wr.heap.size wr wr.drew:=⟨rfl,rfl,rfl,Nat.le_refl _,fun _ _=>rfl⟩
     obtain⟨s0,s1⟩:=HS.out wr.drew (oB hdr)
     have und:=und29
     have hl2:=sB V
     have hl3:=bL V
     have hl1:=bl_one V
     have HNS:Hid (lyN n hh (gen % 2) V X (c+1)=if lyC n hh (gen % 2) V X c=2 then lyN n hh (gen % 2) V X c+1 else lyN n hh (gen % 2) V X c):=Lib.hid rfl
     clear hOKc hD hG ht hv
     generalize lyN n hh (gen % 2) V X c=nf at HNS hNc ⊢
     go_wp2_with fail
     go_region_held3 (fun w'=>w'.cell? ⟨w.heap.size,0,none⟩=some (.int .i64 gen)∧w'.rangeAt bk 0 (bl V))
      (first
       | exact⟨s0,s1⟩
       | exact HS.out w7 (oB (hdr.trans hb7))
       | exact HS.out w8 (Dk.oT (oB (hdr.trans hb7)) hg8))
      (first
       | ((go_at_call 93; refine(tableAt_any hh gen c _ (by omega) (by omega) (by omega) (by omega) (by omega)).mono ?_; rintro _ w7 ⟨rfl,hb7⟩))
       | ((go_at_call 92; refine(write_d (by exact HDw.out w7 (hdr.trans hb7)) (by exact HOKc.out) _ _).mono ?_; rintro _ w8 ⟨rfl,hg8,hD8⟩)))
     have hG8:wr.grownBy w8 (some g.b):=Dk.oT (oB (hdr.trans hb7)) hg8
     obtain⟨ht8,hv8⟩:=HKS.out w8 hG8
     have hGG:=Dk.oT HGw.out hG8
     clear HS HKS s0 s1 hg8 hb7 hdr HDw hl1 hl2 hl3 und
     have hEc:lyC n hh (gen % 2) V X c=dWrE n (lyS n hh (gen % 2) V X c) (c * hh+gen % 2):=rfl
     generalize dWrE n (lyS n hh (gen % 2) V X c) (c * hh+gen % 2)=Ec at hEc ⊢
     have HEc:=Lib.hid hEc
     clear hEc
     have HN0:=Lib.hid (fun(hnb:¬ bad Ec)=>show(w.grownBy w8 (some g.b)∧HasD w8 g n (lyS n hh (gen % 2) V X (c+1))∧w8.heap[w.heap.size]?=some (.cells #[.int .i64 gen,.slice pa k cap] 37 (0,0))∧w8.heap[bk]?=some (.cells (bl V).toArray 47 (0,0))∧∀c',c' < c+1→¬ bad (lyC n hh (gen % 2) V X c')) from
      ⟨hGG,hD8,ht8,hv8,fun c' h=>by
       by_cases e:c'=c
       ·subst e; rw[HEc.out]; exact hnb
       ·exact hHZ.out c' (by omega)⟩)
     by_cases ez:Ec=0
     ·have HN:=Lib.hid (HN0.out (by unfold bad; omega))
      have HNN:Hid (lyN n hh (gen % 2) V X (c+1)=nf):=Lib.hid (by rw[HNS.out,HEc.out,if_neg (by omega)])
      subst ez
      clear ht8 hv8 hGG hG8 hD8 HGw hHZ HEc HOKc HN0 HNS
      go_wp2_with fail
      go_roundw
      case rel=>exact⟨c+1,by omega,by go_num,by rw[HNN.out],HN⟩
      case measure=>simp[intOf]; omega
     ·have ne0:(Ec == 0)=false:=by simpa using ez
      by_cases e2:Ec=2
      ·have HN:=Lib.hid (HN0.out (by unfold bad; omega))
       have HNN:Hid (lyN n hh (gen % 2) V X (c+1)=nf+1):=Lib.hid (by rw[HNS.out,HEc.out,if_pos e2])
       subst e2
       clear ht8 hv8 hGG hG8 hD8 HGw hHZ HEc HOKc HN0 HNS ez
       go_wp2_with fail
       go_roundw
       case rel=>exact⟨c+1,by omega,by go_num,by rw[HNN.out]; go_num,HN⟩
       case measure=>simp[intOf]; omega
      ·have ne2:(Ec == 2)=false:=by simpa using e2
       have HR:=Lib.hid (ly_bad c hlt hHZ.out (by rw[HEc.out]; exact⟨ez,e2⟩))
       clear ez e2 HN0 HNS
       go_wp2_with fail
       go_ret
       exact⟨by rw[HFE.out,HR.out.1,HEc.out]; rfl,hGG,by rw[HFX.out,HR.out.2]; exact hD8⟩
    ·obtain rfl:c=2:=by omega
     have HR:=Lib.hid (ly_end hHZ.out)
     have HG:=Lib.hid hG
     have HD2:=Lib.hid hD
     clear hG hD ht hv hHZ
     generalize lyN n hh (gen % 2) V X 2=nf at HR hNc ⊢
     by_cases e2:nf=2
     ·have HR1:Hid (FE=2):=Lib.hid (by rw[HFE.out,HR.out.1,if_pos e2])
      subst e2
      go_wp2_with fail
      go_ret
      exact⟨by rw[HR1.out]; rfl,HG.out,by rw[HFX.out,HR.out.2]; exact HD2.out⟩
     ·have HR1:Hid (FE=0):=Lib.hid (by rw[HFE.out,HR.out.1,if_neg e2])
      have ne2:((nf:Int) == 2)=false:=by simp; omega
      clear e2
      go_wp2_with fail
      go_ret
      exact⟨by rw[HR1.out]; rfl,HG.out,by rw[HFX.out,HR.out.2]; exact HD2.out⟩
  ·have HFE:Hid (FE=E):=Lib.hid (by rw[HE.out,if_neg eE])
   have HFX:Hid (FX=X):=Lib.hid (by rw[HX.out,if_neg eE])
   have ne:(E == 0)=false:=by simpa using eE
   clear eE HE HX HGE
   go_wp2_with fail
   go_ret
   exact⟨by rw[HFE.out]; rfl,oB hB5,by rw[HFX.out]; exact hD5⟩
end Rm
end Go.Proofs.YteaocagepfgfnaaGreatDoor
