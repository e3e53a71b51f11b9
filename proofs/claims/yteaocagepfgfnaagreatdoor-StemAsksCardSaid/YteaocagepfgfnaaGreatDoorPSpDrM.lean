import Derived.Test.YteaocagepfgfnaaGreatDoorPSpTk
import Derived.Test.YteaocagepfgfnaaGreatDoorPJPt
import Derived.Test.YteaocagepfgfnaaGreatDoorPAl
set_option maxRecDepth 100000
set_option maxHeartbeats 8000000
namespace Go.Proofs.YteaocagepfgfnaaGreatDoor
namespace Sp
open Go.RowKit Dk Eqb Byt
def pla(A B Z x:Int):List Int:=if x = -1 then [] else [plI A B Z x]
def sec1(x:Int):List Int:=if x = -1 then [] else [x]
def okB(A B Z x:Int):Bool:=x == -1 || decide (0≤plI A B Z x)
def pls(A B Z:Int)(p:Pt.Pn):List Int:=pla A B Z p.A ++ pla A B Z p.B
def secs(p:Pt.Pn):List Int:=sec1 p.A ++ sec1 p.B
def plB(A B Z:Int)(p:Pt.Pn):Bool:=Pt.rightB p && (okB A B Z p.A && okB A B Z p.B)
def plL(A B Z:Int)(p:Pt.Pn)(i:Nat):Nat:=((pls A B Z p).getD i 0).toNat
theorem pla_map(A B Z x:Int):pla A B Z x=(sec1 x).map (plI A B Z):=by
 unfold pla sec1
 split <;> rfl
theorem pls_map(A B Z:Int)(p:Pt.Pn):pls A B Z p=(secs p).map (plI A B Z):=by
 unfold pls secs
 rw[List.map_append,pla_map,pla_map]
theorem pls_len(A B Z:Int)(p:Pt.Pn):(pls A B Z p).length≤2:=by
 unfold pls pla
 split <;> split <;> simp
theorem secs_len(p:Pt.Pn):(secs p).length≤2:=by
 unfold secs sec1
 split <;> split <;> simp
theorem pla_mem{A B Z x y:Int}(h:y ∈ pla A B Z x):x≠-1∧y=plI A B Z x:=by
 unfold pla at h
 split at h
 ·cases h
 ·exact⟨by assumption,by simpa using h⟩
theorem pls_ok{A B Z:Int}{p:Pt.Pn}(h:plB A B Z p=true):∀y,y ∈ pls A B Z p→0≤y:=by
 intro y hy
 simp only[plB,Bool.and_eq_true] at h
 unfold pls at hy
 rw[List.mem_append] at hy
 rcases hy with hy | hy
 ·obtain⟨h1,rfl⟩:=pla_mem hy
  simpa[okB,h1] using h.2.1
 ·obtain⟨h1,rfl⟩:=pla_mem hy
  simpa[okB,h1] using h.2.2
theorem pls_lt{A B Z:Int}{p:Pt.Pn}(ha:Ap A B Z):∀y,y ∈ pls A B Z p→y < 2 * Z:=by
 intro y hy
 unfold pls at hy
 rw[List.mem_append] at hy
 rcases hy with hy | hy
 ·obtain⟨_,rfl⟩:=pla_mem hy
  exact plI_lt ha
 ·obtain⟨_,rfl⟩:=pla_mem hy
  exact plI_lt ha
theorem plI_inj{A B Z x y:Int}(ha:Ap A B Z)(hx:0≤plI A B Z x)(h:plI A B Z x=plI A B Z y):x=y:=by
 obtain⟨h1,h2,h3,h4,h5⟩:=ha
 unfold plI at hx h
 split at h
 ·split at h
  ·omega
  ·split at h <;> omega
 ·split at h
  ·split at h
   ·omega
   ·split at h <;> omega
  ·rename_i h6 h7
   rw[if_neg h6,if_neg h7] at hx
   omega
theorem plL_lt{A B Z:Int}{n:Nat}{p:Pt.Pn}(ha:Ap A B Z)(hn:(n:Int)=2 * Z)(h:plB A B Z p=true):∀i,i < (pls A B Z p).length→plL A B Z p i < n∧(pls A B Z p).getD i 0=(plL A B Z p i:Int):=by
 intro i hi
 have hm:(pls A B Z p).getD i 0 ∈ pls A B Z p:=by
  rw[List.getD_eq_getElem?_getD,List.getElem?_eq_getElem hi]
  exact List.getElem_mem hi
 have h0:=pls_ok h _ hm
 have h1:=pls_lt ha _ hm
 unfold plL
 omega
def anyP(A B Z:Int)(p:Pt.Pn)(T:Nat→Bool):Bool:=(pls A B Z p).any fun x=>T x.toNat
def drB(A B Z:Int)(n:Nat)(f:Nat→Int)(p:Pt.Pn):Bool:=formB A B Z n f && (plB A B Z p && !anyP A B Z p fun i=>!us (f i))
def drE(A B Z:Int)(n:Nat)(f:Nat→Int)(p:Pt.Pn):Int:=if drB A B Z n f p then 0 else 1
def drN:Nat→Int:=nx 0 3 4 0 0
def drF(A B Z:Int)(n:Nat)(f:Nat→Int)(p:Pt.Pn):Nat→Int:=if drB A B Z n f p then bec drN (plL A B Z p) f (pls A B Z p).length else f
theorem idle_any(q:Nat)(g:Pl)(b off n cap i:Nat)(A B Z:Int)(f:Nat→Int)(w:World)(hq:w.cell? ⟨q,0,none⟩=some (.pointer (some ⟨g.b,g.o,none⟩)))(hx:Bs w g A B Z (some ⟨b,off,none⟩) n cap)(hi:i < n)(hc:w.cell? ⟨b,off+i,none⟩=some (.int .u8 (f i))) :
  Calls Tryz.prog 131 #[.int .i64 i,.pointer (some ⟨q,0,none⟩)] w fun e w'=>e=.returned (.bool (!us (f i)))∧w=w':=by
 have c3:=hx.c3
 have HU:=Lib.hid (used_any (f i) w)
 have hi0:(0:Int)≤(i:Int):=by omega
 have hin:(i:Int) < (n:Int):=by omega
 generalize f i=v at hc HU
 generalize us v=u at HU
 go_enter Tryz.func131,Tryz.ntmps131
 go_wp2_with fail
 refine HU.out.mono ?_
 rintro _ w2 ⟨rfl,rfl⟩
 dsimp only
 go_wp2_with fail
 go_ret
 exact⟨rfl,rfl⟩
theorem any_take{xs:List Int}{T:Int→Bool}{j:Nat}(h:(xs.take j).any T=false)(hj:j < xs.length)(hT:T (xs.getD j 0)=false):(xs.take (j+1)).any T=false:=by
 rw[List.take_add_one,List.any_append,h,Bool.false_or]
 rw[List.getElem?_eq_getElem hj]
 rw[List.getD_eq_getElem?_getD,List.getElem?_eq_getElem hj] at hT
 simpa using hT
theorem any_here{xs:List Int}{T:Int→Bool}{j:Nat}(hj:j < xs.length)(hT:T (xs.getD j 0)=true):xs.any T=true:=by
 rw[List.getD_eq_getElem?_getD,List.getElem?_eq_getElem hj] at hT
 exact List.any_eq_true.2 ⟨_,List.getElem_mem hj,by simpa using hT⟩
theorem index_idle(q:Nat)(v:Value)(xs:List Int)(T:Int→Bool)(base:Nat)(w:World)(hv:OwnI w base v xs)(hlen:xs.length≤1099511627776)(hT:∀j,j < xs.length→Calls Tryz.prog 131 #[.int .i64 (xs.getD j 0),.pointer (some ⟨q,0,none⟩)] w fun e w'=>e=.returned (.bool (T (xs.getD j 0)))∧w=w') :
  Calls Tryz.prog 156 #[v,.func (.func 131) #[] #[.pointer (some ⟨q,0,none⟩)]] w fun e w'=>∃k:Int,e=.returned (.int .i64 k)∧decide (0≤k)=xs.any T∧w=w':=by
 have HT:=Lib.hid hT
 clear hT
 rcases hv.slice with ⟨rfl,rfl⟩ | ⟨b,cap,rfl,_,_,hc⟩
 ·clear HT hv hlen
  go_enter Tryz.func156,Tryz.ntmps156
  go_wp2_with fail
  go_loop [8] (fun i=>i=.int .i64 0) (fun _=>0)
  case atStart=>rfl
  case round=>
   obtain rfl:=hrel
   go_wp2_with fail
   go_ret
   exact⟨-1,rfl,by simp,rfl⟩
 ·have HC:=Lib.hid hc
  clear hc hv
  obtain⟨m,hm⟩:∃m,m=xs.length:=⟨_,rfl⟩
  have HM:=Lib.hid hm
  rw[←hm]
  have hmb:m≤1099511627776:=by omega
  clear hm hlen
  go_enter Tryz.func156,Tryz.ntmps156
  go_wp2_with fail
  go_loop [8] (fun i=>∃j:Nat,j≤m∧i=.int .i64 j∧Hid ((xs.take j).any T=false)) (fun i=>m - (intOf i).toNat)
  case atStart=>exact⟨0,by omega,rfl,Lib.hid rfl⟩
  case round=>
   obtain⟨j,hj,rfl,hR⟩:=hrel
   by_cases hlt:j < m
   ·have hcj:=HC.out j (by have:=HM.out; omega)
    have hj0:(0:Int)≤(j:Int):=by omega
    have hjn:(j:Int) < (m:Int):=by omega
    have HTj:=Lib.hid (HT.out j (by have:=HM.out; omega))
    have HY:=Lib.hid (fun h=>any_here (T:=T) (show j < xs.length by have:=HM.out; omega) h)
    have HO:=Lib.hid (fun h=>any_take hR.out (show j < xs.length by have:=HM.out; omega) h)
    generalize xs.getD j 0=x at hcj HTj HY HO
    go_wp2_with fail
    refine HTj.out.mono ?_
    rintro _ w2 ⟨rfl,rfl⟩
    dsimp only
    cases hu:T x with
    | true=>
     have HV:=Lib.hid (HY.out hu)
     clear HY HO hu
     go_wp2_with fail
     go_ret
     exact⟨(j:Int),rfl,by rw[HV.out]; exact decide_eq_true (by omega),rfl⟩
    | false=>
     have HV:=Lib.hid (HO.out hu)
     clear HY HO hu
     go_wp2_with fail
     go_round
     case rel=>exact⟨j+1,by omega,by go_num,HV⟩
     case measure=>simp[intOf]; omega
   ·obtain rfl:j=m:=by omega
    have HV:Hid (xs.any T=false):=Lib.hid (by have:=hR.out; rwa [HM.out,List.take_length] at this)
    clear hR
    go_wp2_with fail
    go_ret
    exact⟨-1,rfl,by rw[HV.out]; rfl,rfl⟩
theorem contains_idle(q:Nat)(v:Value)(xs:List Int)(T:Int→Bool)(base:Nat)(w:World)(hv:OwnI w base v xs)(hlen:xs.length≤1099511627776)(hT:∀j,j < xs.length→Calls Tryz.prog 131 #[.int .i64 (xs.getD j 0),.pointer (some ⟨q,0,none⟩)] w fun e w'=>e=.returned (.bool (T (xs.getD j 0)))∧w=w') :
  Calls Tryz.prog 133 #[v,.func (.func 131) #[] #[.pointer (some ⟨q,0,none⟩)]] w fun e w'=>e=.returned (.bool (xs.any T))∧w=w':=by
 have HI:=Lib.hid (index_idle q v xs T base w hv hlen hT)
 generalize xs.any T=r at HI
 clear hv hT hlen
 go_enter Tryz.func133,Tryz.ntmps133
 go_wp2_with fail
 refine HI.out.mono ?_
 rintro _ w2 ⟨k,rfl,rfl,rfl⟩
 dsimp only
 go_wp2_with fail
 go_ret
 exact⟨rfl,rfl⟩
end Sp
namespace Vp
open Go.RowKit Dk Eqb Byt Sp
theorem put_at(f:Nat→Int)(j:Nat)(z:Int):put f j z j=z:=if_pos rfl
theorem put_off{f:Nat→Int}{i j:Nat}(z:Int)(h:i≠j):put f j z i=f i:=if_neg h
theorem usN_far(f:Nat→Int)(j:Nat)(z:Int):∀k,k≤j→usN (put f j z) k=usN f k
 | 0,_=>rfl
 | k+1,hk=>by rw[usN,usN,usN_far f j z k (by omega),put_off z (by omega)]
theorem usN_put(f:Nat→Int)(j:Nat)(z:Int):∀n,j < n→usN (put f j z) n=usN f n - (if us (f j) then 1 else 0)+(if us z then 1 else 0)
 | 0,h=>by omega
 | n+1,h=>by
  by_cases e:j=n
  ·subst e
   rw[usN,usN,usN_far f j z j (Nat.le_refl _),put_at]
   omega
  ·rw[usN,usN,usN_put f j z n (by omega),put_off z (by omega)]
   omega
theorem us_iff{z:Int}:us z=true↔z=1∨z=2:=by simp[us]
section
variable {f:Nat→Int}{S S1 S2:List Int}{K G D:Int→Prop}
theorem usN_same{N:Nat→Int}{f:Nat→Int}(hN:∀z,0≤z∧z≤4→us (N z.toNat)=us z):∀n,(∀i,i < n→0≤f i∧f i≤4)→usN (alT N f) n=usN f n
 | 0,_=>rfl
 | n+1,h=>by
  have h1:us (alT N f n)=us (f n):=hN _ (h n (by omega))
  rw[usN,usN,usN_same hN n (fun i hi=>h i (by omega)),h1]
theorem five{P:Int→Prop}(h0:P 0)(h1:P 1)(h2:P 2)(h3:P 3)(h4:P 4):∀z:Int,0≤z∧z≤4→P z:=by
 intro z hz
 obtain e | e | e | e | e:z=0∨z=1∨z=2∨z=3∨z=4:=by omega
 all_goals subst e; assumption
end
def sx(H:List Pt.Pn):List Int:=H.flatMap secs
theorem sx_append(H H':List Pt.Pn):sx (H ++ H')=sx H ++ sx H':=by simp[sx]
theorem sx_cons(p:Pt.Pn)(H:List Pt.Pn):sx (p :: H)=secs p ++ sx H:=rfl
theorem sx_one(p:Pt.Pn):sx [p]=secs p:=by simp[sx]
theorem sx_mem{p:Pt.Pn}{H:List Pt.Pn}{x:Int}(hp:p ∈ H)(hx:x ∈ secs p):x ∈ sx H:=List.mem_flatMap.2 ⟨p,hp,hx⟩
theorem sx_len:∀H:List Pt.Pn,(sx H).length≤2 * H.length
 | []=>by simp[sx]
 | p :: H=>by
  have:=sx_len H
  have:=secs_len p
  rw[sx_cons,List.length_append,List.length_cons]
  omega
theorem secs_one{p:Pt.Pn}(hA:p.A≠-1)(hB:p.B = -1):secs p=[p.A]:=by unfold secs sec1; rw[if_neg hA,if_pos hB]; rfl
theorem secs_two{p:Pt.Pn}(hA:p.A≠-1)(hB:p.B≠-1):secs p=[p.A,p.B]:=by unfold secs sec1; rw[if_neg hA,if_neg hB]; rfl
structure Hp(p:Pt.Pn):Prop where
 a:0≤p.A
 b:-1≤p.B
 alo:p.A < 4096
 blo:p.B < 4096
theorem sx_step{H:List Pt.Pn}{m:Nat}{q:Pt.Pn}(hq:H[m]?=some q):sx (H.take (m+1))=sx (H.take m) ++ secs q:=by
 obtain⟨hm,rfl⟩:=List.getElem?_eq_some_iff.1 hq
 rw[List.take_succ_eq_append_getElem hm,sx_append,sx_one]
theorem sx_parts{H:List Pt.Pn}{m:Nat}{q:Pt.Pn}(hq:H[m]?=some q):sx H=sx (H.take m) ++ secs q ++ sx (H.drop (m+1)):=by
 rw[←sx_step hq,←sx_append,List.take_append_drop]
theorem held_ne{H:List Pt.Pn}{q:Pt.Pn}{x:Int}(hq:q ∈ H)(hh:Hp q)(hx:x ∉ sx H)(h0:0≤x):q.A≠x∧q.B≠x:=by
 have hA:q.A≠-1:=by have:=hh.a; omega
 refine⟨?_,?_⟩
 ·rintro rfl
  exact hx (sx_mem hq (by unfold secs sec1; rw[if_neg hA]; simp))
 ·rintro rfl
  by_cases hB:q.B = -1
  ·omega
  ·exact hx (sx_mem hq (by rw[secs_two hA hB]; simp))
theorem held_right{p:Pt.Pn}(hh:Hp p)(hne:p.B≠p.A):Pt.rightB p=true:=by
 have h1:Pt.secB p.A=true:=Pt.secB_iff.2 ⟨hh.a,hh.alo⟩
 unfold Pt.rightB
 rw[h1]
 by_cases e:p.B = -1
 ·rw[e]; simp
 ·have h2:Pt.secB p.B=true:=Pt.secB_iff.2 ⟨by have:=hh.b; omega,hh.blo⟩
  rw[h2]
  simp[hne]
end Vp
namespace Sp
open Go.RowKit Dk Eqb Byt
def pcl(A B Z:Int)(p:Pt.Pn)(j:Nat):List Int:=if j=0 then [] else if j=1 then pla A B Z p.A else pls A B Z p
theorem pcl_len(A B Z:Int)(p:Pt.Pn)(j:Nat):(pcl A B Z p j).length≤2:=by
 unfold pcl
 split
 ·simp
 ·split
  ·unfold pla; split <;> simp
  ·exact pls_len A B Z p
structure PcR(W w1:World)(A B Z:Int)(p:Pt.Pn)(j:Nat)(v:Value)(wr:World):Prop where
 be:Below W.heap.size W wr
 ow:OwnI wr w1.heap.size v (pcl A B Z p j)
 okA:1≤j→okB A B Z p.A=true
 okB:2≤j→okB A B Z p.B=true
 lt:w1.heap.size≤wr.heap.size
 w1:W.heap.size≤w1.heap.size
section
variable {W w1 wr w2 w3:World}{A B Z:Int}{p:Pt.Pn}{v v':Value}{o:Obj}
theorem PcR.next0(h:PcR W w1 A B Z p 0 v wr)(h1:Sp.okB A B Z p.A=true)(h2:OwnI wr w1.heap.size v ([] ++ pla A B Z p.A)):PcR W w1 A B Z p 1 v wr:=
 ⟨h.be,h2,fun _=>h1,fun hh=>by omega,h.lt,h.w1⟩
theorem PcR.next1(h:PcR W w1 A B Z p 1 v wr)(h1:Sp.okB A B Z p.B=true)(h2:OwnI wr w1.heap.size v (pla A B Z p.A ++ pla A B Z p.B)):PcR W w1 A B Z p 2 v wr:=
 ⟨h.be,h2,fun _=>h.okA (by omega),fun _=>h1,h.lt,h.w1⟩
theorem PcR.world{j:Nat}(h:PcR W w1 A B Z p j v wr)(hb:Below wr.heap.size wr w2)(hg:(w2.alloc o).grownBy w3 v.ownBlock):Below W.heap.size W w3∧w1.heap.size≤w3.heap.size:=by
 have hBA:Below wr.heap.size wr (w2.alloc o):=hb.alloc hb.size _
 have hs1:=h.be.size
 have hs2:=hBA.size
 have hs3:=hg.size
 have:=h.lt
 exact⟨(h.be.trans (hBA.mono h.be.size)).grown hg (by omega) fun k hk=>by have:=(World.ownsRow.lt h.ow k hk).1; have:=h.w1; omega,by omega⟩
theorem PcR.grow0(h:PcR W w1 A B Z p 0 v wr)(hb:Below wr.heap.size wr w2)(h1:Sp.okB A B Z p.A=true)(h2:OwnI w3 w1.heap.size v' ([] ++ pla A B Z p.A))(hg:(w2.alloc o).grownBy w3 v.ownBlock):PcR W w1 A B Z p 1 v' w3:=
 ⟨(h.world hb hg).1,h2,fun _=>h1,fun hh=>by omega,(h.world hb hg).2,h.w1⟩
theorem PcR.grow1(h:PcR W w1 A B Z p 1 v wr)(hb:Below wr.heap.size wr w2)(h1:Sp.okB A B Z p.B=true)(h2:OwnI w3 w1.heap.size v' (pla A B Z p.A ++ pla A B Z p.B))(hg:(w2.alloc o).grownBy w3 v.ownBlock):PcR W w1 A B Z p 2 v' w3:=
 ⟨(h.world hb hg).1,h2,fun _=>h.okA (by omega),fun _=>h1,(h.world hb hg).2,h.w1⟩
theorem OwnI.more{w:World}{base base':Nat}{v:Value}{xs:List Int}(h:OwnI w base v xs)(hb:base'≤base):OwnI w base' v xs:=by
 refine⟨h.1,?_⟩
 rcases h.2 with h2 | ⟨g,cap,cur,hv,hb',h5⟩
 ·exact .inl h2
 ·exact .inr ⟨g,cap,cur,hv,by omega,h5⟩
end
theorem box_two(w:World)(A B Z:Int)(ao:Option Addr)(n cap:Nat)(p:Pt.Pn):∃W,W=(w.alloc (.cells #[.int .i64 A,.int .i64 B,.int .i64 Z,.slice ao n cap] 41)).alloc (.cells (Pt.pV p).toArray 24)∧Below w.heap.size w W∧W.heap.size=w.heap.size+2∧Bq W w.heap.size A B Z ao n cap∧W.heap[w.heap.size+1]?=some (.cells (Pt.pV p).toArray 24 (0,0)):=by
 refine⟨_,rfl,((Below.refl _ _).alloc (Nat.le_refl _) _).alloc (by simp) _,by simp,?_,?_⟩
 ·unfold Bq
  rw[Below.heap_alloc _ _ _ (by simp),heap_alloc_new]
 ·have:=heap_alloc_new (w.alloc (.cells #[.int .i64 A,.int .i64 B,.int .i64 Z,.slice ao n cap] 41)) (.cells (Pt.pV p).toArray 24)
  rwa [World.size_alloc] at this
theorem places_any(A B Z:Int)(p:Pt.Pn)(ao:Option Addr)(n cap:Nat)(w:World)(ha:Ap A B Z)(hpA:i64 p.A)(hpB:i64 p.B) :
  Calls Tryz.prog 130 #[.agg #[.int .i64 A,.int .i64 B,.int .i64 Z,.slice ao n cap],.agg (Pt.pV p).toArray] w fun e w'=>∃v,e=.returned (.tuple #[v,.bool (plB A B Z p)])∧(plB A B Z p=true→OwnI w' w.heap.size v (pls A B Z p))∧Below w.heap.size w w':=by
 obtain⟨W,hW,hbW,hsW,hxW,hpW⟩:=box_two w A B Z ao n cap p
 have HAp:=Lib.hid ha
 have HRT:=Lib.hid (fun W=>Pt.right_any p W)
 have r0:=Pt.rP hpW
 clear ha
 cases hr:Pt.rightB p with
 | false=>
  have HV:Hid (plB A B Z p=false):=Lib.hid (by unfold plB; rw[hr]; rfl)
  rw[hr] at HRT
  clear hr
  go_enter Tryz.func130,Tryz.ntmps130
  go_wp2_with (first | rw[←hW] | (refine @wG _ _ _ _ _ _ _ (by kernel_rfl) 24 (.tmp 3) rfl (w.heap.size+1) 0 rfl (Pt.pV p) _ r0 Pt.undP rfl (Pt.sizeP p) ?_; simp only[Act.put,aA]))
  refine(HRT.out _).mono ?_
  rintro _ w1 ⟨rfl,hb1⟩
  dsimp only
  go_wp2_with fail
  go_ret2
  exact⟨.slice none 0 0,by rw[HV.out]; rfl,(fun h=>by rw[HV.out] at h; cases h),hbW.trans (hb1.mono (by omega))⟩
 | true=>
  rw[hr] at HRT
  have HR0:=Lib.hid hr
  clear hr
  go_enter Tryz.func130,Tryz.ntmps130
  go_wp2_with (first | rw[←hW] | (refine @wG _ _ _ _ _ _ _ (by kernel_rfl) 24 (.tmp 3) rfl (w.heap.size+1) 0 rfl (Pt.pV p) _ r0 Pt.undP rfl (Pt.sizeP p) ?_; simp only[Act.put,aA]))
  refine(HRT.out _).mono ?_
  rintro _ w1 ⟨rfl,hb1⟩
  dsimp only
  have hp1:=(hb1.block (w.heap.size+1) (by omega)).trans hpW
  have pA:=Pt.cA_pt hp1
  have pB:=Pt.cB_pt hp1
  have HP0:Hid (PcR W w1 A B Z p 0 (.slice none 0 0) w1):=Lib.hid ⟨hb1,OwnI.nil _ _,fun h=>by omega,fun h=>by omega,Nat.le_refl _,hb1.size⟩
  have i0:=idx0 p.A p.B
  have i1:=idx1 p.A p.B
  clear hb1 hp1 hW hpW r0
  go_wp2_with fail
  clear pA pB
  go_loopw [6,19] (fun t i wr=>∃j:Nat,j≤2∧i=.int .i64 j∧Hid (PcR W w1 A B Z p j t wr)) (fun _ i _=>2 - (intOf i).toNat)
  case atStart=>exact⟨0,by omega,rfl,HP0⟩
  case round=>
   clear HP0
   rename_i u6 _
   obtain⟨v8,hv8⟩:∃v8,v8=u6:=⟨_,rfl⟩
   subst hv8
   obtain⟨j,hj,rfl,hR⟩:=hrel
   obtain rfl | rfl | rfl:j=0∨j=1∨j=2:=by omega
   ·have hxb:=hpA
    have HOK:Hid (okB A B Z p.A=(p.A == -1 || decide (0≤plI A B Z p.A))):=Lib.hid rfl
    have HPA:Hid (pla A B Z p.A=if p.A = -1 then [] else [plI A B Z p.A]):=Lib.hid rfl
    have HPC:=Lib.hid (fun w'=>place_any A B Z p.A ao n cap w' hxb HAp.out)
    cases hy:p.A == -1 with
    | true=>
     have HN:Hid (PcR W w1 A B Z p 1 v8 wr):=Lib.hid (hR.out.next0 (by rw[HOK.out,hy]; rfl) (by rw[HPA.out,if_pos (by simpa using hy),List.append_nil]; exact hR.out.ow))
     clear HOK HPA HPC hR hxb
     go_wp2_with fail
     go_roundw
     case rel=>exact⟨0+1,by omega,by go_num,HN⟩
     case measure=>simp[intOf]
    | false=>
     have hY:=hR.out.be
     have e0:=(hxW.below hY (by omega)).c0
     have e1:=(hxW.below hY (by omega)).c1
     have e2:=(hxW.below hY (by omega)).c2
     have e3:=(hxW.below hY (by omega)).c3
     cases hz:decide (0≤plI A B Z p.A) with
     | false=>
      have HV:Hid (plB A B Z p=false):=Lib.hid (by
       unfold plB
       rw[show okB A B Z p.A=okB A B Z p.A from rfl,HOK.out,hy,hz]
       simp)
      rw[hz] at HPC
      clear HOK HPA hR hxb
      go_wp2_with fail
      refine(HPC.out wr).mono ?_
      rintro _ w2 ⟨rfl,hb2⟩
      dsimp only
      generalize clip (plI A B Z p.A)=k
      go_wp2_with fail
      go_ret2
      exact⟨.slice none 0 0,by rw[HV.out]; rfl,(fun h=>by rw[HV.out] at h; cases h),hbW.trans ((hY.trans (hb2.mono hY.size)).mono (by omega))⟩
     | true=>
      rw[hz,show clip (plI A B Z p.A)=plI A B Z p.A from if_pos (of_decide_eq_true hz)] at HPC
      have HOKt:Hid (okB A B Z p.A=true):=Lib.hid (by rw[HOK.out,hy,hz]; rfl)
      have HPA':Hid (pla A B Z p.A=[plI A B Z p.A]):=Lib.hid (by rw[HPA.out,if_neg (by simpa using hy)])
      have HLN:=Lib.hid hR.out.ow
      have HRR:=Lib.hid hR.out
      clear HOK HPA hR hxb hz
      generalize plI A B Z p.A=k at HPC HPA'
      go_wp2_with fail
      refine(HPC.out wr).mono ?_
      rintro _ w2 ⟨rfl,hb2⟩
      dsimp only
      have HB2:=Lib.hid hb2
      clear hb2 e0 e1 e2 e3
      go_wp2_with (at_builtin; refine append_i1 rfl (.tmp 32) (.tmp 34) rfl w1.heap.size v8 _ rfl ((HRR.out.ow.below HB2.out).below ((Below.refl _ _).alloc (Nat.le_refl _) _)) w2.heap.size 1 k rfl (World.cell?_alloc_new _ _ _ 0) (by have:=pcl_len A B Z p 0; omega) (by have:=HRR.out.lt; have:=HB2.out.size; simp; omega) ?_; intro v' w3 hown hg; have HN:=Lib.hid (HRR.out.grow0 HB2.out HOKt.out (by rw[HPA'.out]; exact hown) hg); clear hown hg)
      go_roundw
      case rel=>exact⟨0+1,by omega,by go_num,HN⟩
      case measure=>simp[intOf]
   ·have hxb:=hpB
    rw[show((1:Nat):Int)=1 from rfl]
    have HOK:Hid (okB A B Z p.B=(p.B == -1 || decide (0≤plI A B Z p.B))):=Lib.hid rfl
    have HPA:Hid (pla A B Z p.B=if p.B = -1 then [] else [plI A B Z p.B]):=Lib.hid rfl
    have HPC:=Lib.hid (fun w'=>place_any A B Z p.B ao n cap w' hxb HAp.out)
    cases hy:p.B == -1 with
    | true=>
     have HN:Hid (PcR W w1 A B Z p 2 v8 wr):=Lib.hid (hR.out.next1 (by rw[HOK.out,hy]; rfl) (by rw[HPA.out,if_pos (by simpa using hy),List.append_nil]; exact hR.out.ow))
     clear HOK HPA HPC hR hxb
     go_wp2_with fail
     go_roundw
     case rel=>exact⟨1+1,by omega,by go_num,HN⟩
     case measure=>simp[intOf]
    | false=>
     have hY:=hR.out.be
     have e0:=(hxW.below hY (by omega)).c0
     have e1:=(hxW.below hY (by omega)).c1
     have e2:=(hxW.below hY (by omega)).c2
     have e3:=(hxW.below hY (by omega)).c3
     cases hz:decide (0≤plI A B Z p.B) with
     | false=>
      have HV:Hid (plB A B Z p=false):=Lib.hid (by
       unfold plB
       rw[show okB A B Z p.B=okB A B Z p.B from rfl,HOK.out,hy,hz]
       simp)
      rw[hz] at HPC
      clear HOK HPA hR hxb
      go_wp2_with fail
      refine(HPC.out wr).mono ?_
      rintro _ w2 ⟨rfl,hb2⟩
      dsimp only
      generalize clip (plI A B Z p.B)=k
      go_wp2_with fail
      go_ret2
      exact⟨.slice none 0 0,by rw[HV.out]; rfl,(fun h=>by rw[HV.out] at h; cases h),hbW.trans ((hY.trans (hb2.mono hY.size)).mono (by omega))⟩
     | true=>
      rw[hz,show clip (plI A B Z p.B)=plI A B Z p.B from if_pos (of_decide_eq_true hz)] at HPC
      have HOKt:Hid (okB A B Z p.B=true):=Lib.hid (by rw[HOK.out,hy,hz]; rfl)
      have HPA':Hid (pla A B Z p.B=[plI A B Z p.B]):=Lib.hid (by rw[HPA.out,if_neg (by simpa using hy)])
      have HLN:=Lib.hid hR.out.ow
      have HRR:=Lib.hid hR.out
      clear HOK HPA hR hxb hz
      generalize plI A B Z p.B=k at HPC HPA'
      go_wp2_with fail
      refine(HPC.out wr).mono ?_
      rintro _ w2 ⟨rfl,hb2⟩
      dsimp only
      have HB2:=Lib.hid hb2
      clear hb2 e0 e1 e2 e3
      go_wp2_with (at_builtin; refine append_i1 rfl (.tmp 32) (.tmp 34) rfl w1.heap.size v8 _ rfl ((HRR.out.ow.below HB2.out).below ((Below.refl _ _).alloc (Nat.le_refl _) _)) w2.heap.size 1 k rfl (World.cell?_alloc_new _ _ _ 0) (by have:=pcl_len A B Z p 1; omega) (by have:=HRR.out.lt; have:=HB2.out.size; simp; omega) ?_; intro v' w3 hown hg; have HN:=Lib.hid (HRR.out.grow1 HB2.out HOKt.out (by rw[HPA'.out]; exact hown) hg); clear hown hg)
      go_roundw
      case rel=>exact⟨1+1,by omega,by go_num,HN⟩
      case measure=>simp[intOf]
   ·have HV:Hid (plB A B Z p=true):=Lib.hid (by unfold plB; rw[HR0.out,hR.out.okA (by omega),hR.out.okB (by omega)]; rfl)
    have HRR:=Lib.hid hR.out
    clear hR
    go_wp2_with fail
    go_ret2
    exact⟨v8,by rw[HV.out]; rfl,fun _=>HRR.out.ow.more (by have:=HRR.out.w1; omega),hbW.trans (HRR.out.be.mono (by omega))⟩
end Sp
namespace Sp
open Go.RowKit Dk Eqb Byt
def PcV(A B Z:Int)(p:Pt.Pn)(base:Nat)(v:Value)(w:World):Prop:=plB A B Z p=true→OwnI w base v (pls A B Z p)
def PcT(A B Z:Int)(p:Pt.Pn)(base:Nat)(u:Value)(w:World):Prop:=∃v,u=.tuple #[v,.bool (plB A B Z p)]∧PcV A B Z p base v w
theorem PcV.below{A B Z:Int}{p:Pt.Pn}{base:Nat}{v:Value}{w w':World}(h:PcV A B Z p base v w)(hb:Below w.heap.size w w'):PcV A B Z p base v w':=fun e=>(h e).below hb
theorem PcT.below{A B Z:Int}{p:Pt.Pn}{base:Nat}{v:Value}{w w':World}(h:PcT A B Z p base v w)(hb:Below w.heap.size w w'):PcT A B Z p base v w':=by
 obtain⟨v,e,hv⟩:=h
 exact⟨v,e,hv.below hb⟩
structure Pc(g:Pl)(A B Z:Int)(ao:Option Addr)(n cap:Nat)(p:Pt.Pn)(W:World)(L:Nat→Bool)(u0 u1 u2 u3 u4 u5 u6 u7 u8 u9:Value)(w':World):Prop where
 a0:L 0=true→u0=.pointer (some ⟨g.b,g.o,none⟩)
 a1:L 1=true→u1=.pointer (some ⟨g.b,g.o,none⟩)
 a2:L 2=true→u2=.agg #[.int .i64 A,.int .i64 B,.int .i64 Z,.slice ao n cap]
 a3:L 3=true→u3=.agg (Pt.pV p).toArray
 a4:L 4=true→PcT A B Z p W.heap.size u4 w'
 a5:L 5=true→PcT A B Z p W.heap.size u5 w'
 a6:L 6=true→PcV A B Z p W.heap.size u6 w'
 a7:L 7=true→u7=.bool (plB A B Z p)
 a8:L 8=true→PcV A B Z p W.heap.size u8 w'
 a9:L 9=true→u9=.bool (plB A B Z p)
 be:Below W.heap.size W w'
theorem pK{L:Nat→Bool}{i k:Nat}{Q:Prop}(h:L k=true→Q)(h1:(k == i)=false):(k == i || L k)=true→Q:=by
 rw[h1,Bool.false_or]
 exact h
section
variable {g:Pl}{A B Z:Int}{ao:Option Addr}{n cap:Nat}{p:Pt.Pn}{W:World}{L:Nat→Bool}{u0 u1 u2 u3 u4 u5 u6 u7 u8 u9:Value}{w' w'':World}
theorem Pc.start:Pc g A B Z ao n cap p W (fun _=>false) u0 u1 u2 u3 u4 u5 u6 u7 u8 u9 { W with drawn:=W.drawn+1 }:=by
 constructor <;> first | exact⟨rfl,rfl,rfl,Nat.le_refl _,fun _ _=>rfl⟩ | simp
theorem Pc.set0(h:Pc g A B Z ao n cap p W L u0 u1 u2 u3 u4 u5 u6 u7 u8 u9 w'):Pc g A B Z ao n cap p W (fun j=>j == 0 || L j) (.pointer (some ⟨g.b,g.o,none⟩)) u1 u2 u3 u4 u5 u6 u7 u8 u9 w':=
 ⟨fun _=>rfl,pK h.a1 rfl,pK h.a2 rfl,pK h.a3 rfl,pK h.a4 rfl,pK h.a5 rfl,pK h.a6 rfl,pK h.a7 rfl,pK h.a8 rfl,pK h.a9 rfl,h.be⟩
theorem Pc.set1(h:Pc g A B Z ao n cap p W L u0 u1 u2 u3 u4 u5 u6 u7 u8 u9 w'):Pc g A B Z ao n cap p W (fun j=>j == 1 || L j) u0 (.pointer (some ⟨g.b,g.o,none⟩)) u2 u3 u4 u5 u6 u7 u8 u9 w':=
 ⟨pK h.a0 rfl,fun _=>rfl,pK h.a2 rfl,pK h.a3 rfl,pK h.a4 rfl,pK h.a5 rfl,pK h.a6 rfl,pK h.a7 rfl,pK h.a8 rfl,pK h.a9 rfl,h.be⟩
theorem Pc.set2(h:Pc g A B Z ao n cap p W L u0 u1 u2 u3 u4 u5 u6 u7 u8 u9 w'):Pc g A B Z ao n cap p W (fun j=>j == 2 || L j) u0 u1 (.agg #[.int .i64 A,.int .i64 B,.int .i64 Z,.slice ao n cap]) u3 u4 u5 u6 u7 u8 u9 w':=
 ⟨pK h.a0 rfl,pK h.a1 rfl,fun _=>rfl,pK h.a3 rfl,pK h.a4 rfl,pK h.a5 rfl,pK h.a6 rfl,pK h.a7 rfl,pK h.a8 rfl,pK h.a9 rfl,h.be⟩
theorem Pc.set3(h:Pc g A B Z ao n cap p W L u0 u1 u2 u3 u4 u5 u6 u7 u8 u9 w'):Pc g A B Z ao n cap p W (fun j=>j == 3 || L j) u0 u1 u2 (.agg (Pt.pV p).toArray) u4 u5 u6 u7 u8 u9 w':=
 ⟨pK h.a0 rfl,pK h.a1 rfl,pK h.a2 rfl,fun _=>rfl,pK h.a4 rfl,pK h.a5 rfl,pK h.a6 rfl,pK h.a7 rfl,pK h.a8 rfl,pK h.a9 rfl,h.be⟩
theorem Pc.set5(h:Pc g A B Z ao n cap p W L u0 u1 u2 u3 u4 u5 u6 u7 u8 u9 w'){v:Value}(hv:PcT A B Z p W.heap.size v w'):Pc g A B Z ao n cap p W (fun j=>j == 5 || L j) u0 u1 u2 u3 u4 v u6 u7 u8 u9 w':=
 ⟨pK h.a0 rfl,pK h.a1 rfl,pK h.a2 rfl,pK h.a3 rfl,pK h.a4 rfl,fun _=>hv,pK h.a6 rfl,pK h.a7 rfl,pK h.a8 rfl,pK h.a9 rfl,h.be⟩
theorem Pc.set6(h:Pc g A B Z ao n cap p W L u0 u1 u2 u3 u4 u5 u6 u7 u8 u9 w'){v:Value}(hv:PcV A B Z p W.heap.size v w'):Pc g A B Z ao n cap p W (fun j=>j == 6 || L j) u0 u1 u2 u3 u4 u5 v u7 u8 u9 w':=
 ⟨pK h.a0 rfl,pK h.a1 rfl,pK h.a2 rfl,pK h.a3 rfl,pK h.a4 rfl,pK h.a5 rfl,fun _=>hv,pK h.a7 rfl,pK h.a8 rfl,pK h.a9 rfl,h.be⟩
theorem Pc.set7(h:Pc g A B Z ao n cap p W L u0 u1 u2 u3 u4 u5 u6 u7 u8 u9 w'):Pc g A B Z ao n cap p W (fun j=>j == 7 || L j) u0 u1 u2 u3 u4 u5 u6 (.bool (plB A B Z p)) u8 u9 w':=
 ⟨pK h.a0 rfl,pK h.a1 rfl,pK h.a2 rfl,pK h.a3 rfl,pK h.a4 rfl,pK h.a5 rfl,pK h.a6 rfl,fun _=>rfl,pK h.a8 rfl,pK h.a9 rfl,h.be⟩
theorem Pc.set8(h:Pc g A B Z ao n cap p W L u0 u1 u2 u3 u4 u5 u6 u7 u8 u9 w'){v:Value}(hv:PcV A B Z p W.heap.size v w'):Pc g A B Z ao n cap p W (fun j=>j == 8 || L j) u0 u1 u2 u3 u4 u5 u6 u7 v u9 w':=
 ⟨pK h.a0 rfl,pK h.a1 rfl,pK h.a2 rfl,pK h.a3 rfl,pK h.a4 rfl,pK h.a5 rfl,pK h.a6 rfl,pK h.a7 rfl,fun _=>hv,pK h.a9 rfl,h.be⟩
theorem Pc.set9(h:Pc g A B Z ao n cap p W L u0 u1 u2 u3 u4 u5 u6 u7 u8 u9 w'):Pc g A B Z ao n cap p W (fun j=>j == 9 || L j) u0 u1 u2 u3 u4 u5 u6 u7 u8 (.bool (plB A B Z p)) w':=
 ⟨pK h.a0 rfl,pK h.a1 rfl,pK h.a2 rfl,pK h.a3 rfl,pK h.a4 rfl,pK h.a5 rfl,pK h.a6 rfl,pK h.a7 rfl,pK h.a8 rfl,fun _=>rfl,h.be⟩
theorem Pc.call4(h:Pc g A B Z ao n cap p W L u0 u1 u2 u3 u4 u5 u6 u7 u8 u9 w'){v:Value}(hv:PcT A B Z p w'.heap.size v w'')(hb:Below w'.heap.size w' w''):Pc g A B Z ao n cap p W (fun j=>j == 4 || L j) u0 u1 u2 u3 v u5 u6 u7 u8 u9 w'':=
 ⟨pK h.a0 rfl,pK h.a1 rfl,pK h.a2 rfl,pK h.a3 rfl,fun _=>(by
  obtain⟨v,e,hv⟩:=hv
  exact⟨v,e,fun hh=>(hv hh).more h.be.size⟩),pK (fun e=>(h.a5 e).below hb) rfl,pK (fun e=>(h.a6 e).below hb) rfl,pK h.a7 rfl,pK (fun e=>(h.a8 e).below hb) rfl,pK h.a9 rfl,h.be.trans (hb.mono h.be.size)⟩
end
theorem box_pp(w:World)(g:Pl)(p:Pt.Pn):∃W,W=(w.alloc (.cells #[.pointer (some ⟨g.b,g.o,none⟩)] 141)).alloc (.cells (Pt.pV p).toArray 24)∧Below w.heap.size w W∧W.heap.size=w.heap.size+2∧W.cell? ⟨w.heap.size,0,none⟩=some (.pointer (some ⟨g.b,g.o,none⟩))∧W.heap[w.heap.size+1]?=some (.cells (Pt.pV p).toArray 24 (0,0)):=by
 refine⟨_,rfl,((Below.refl _ _).alloc (Nat.le_refl _) _).alloc (by simp) _,by simp,?_,?_⟩
 ·rw[World.cell?_alloc_lt _ _ _ (by simp)]
  exact World.cell?_alloc_new _ _ _ 0
 ·have:=heap_alloc_new (w.alloc (.cells #[.pointer (some ⟨g.b,g.o,none⟩)] 141)) (.cells (Pt.pV p).toArray 24)
  rwa [World.size_alloc] at this
def DrInv(x4 x7 x8 x9 x10 x19 x20 x21 x22 x23 x24 x25 x26 x27 x28 x29 x30:Value)(q:Nat)(g:Pl)(A B Z:Int)(ao:Option Addr)(n cap:Nat)(p:Pt.Pn)(W:World)(L:Nat→Bool)(a':Act)(w':World):Prop:=
 ∃u0 u1 u2 u3 u4 u5 u6 u7 u8 u9,a'={ tmps:=#[.pointer (some ⟨g.b,g.o,none⟩),.agg (Pt.pV p).toArray,.pointer (some ⟨q,0,none⟩),.pointer (some ⟨q+1,0,none⟩),x4,u8,u9,x7,x8,x9,x10,u5,u0,u1,u2,u3,u4,u6,u7,x19,x20,x21,x22,x23,x24,x25,x26,x27,x28,x29,x30],defers:=[] }∧Pc g A B Z ao n cap p W L u0 u1 u2 u3 u4 u5 u6 u7 u8 u9 w'
theorem Drop_any(g:Pl)(A B Z:Int)(p:Pt.Pn)(ao:Option Addr)(n cap:Nat)(f:Nat→Int)(w:World)(hx:Bs w g A B Z ao n cap)(hB:i64 B)(hs:St w w.heap.size ao n cap f)(hpA:i64 p.A)(hpB:i64 p.B) :
  Calls Tryz.prog 98 #[.pointer (some ⟨g.b,g.o,none⟩),.agg (Pt.pV p).toArray] w fun e w'=>e=.returned (.int .i64 (drE A B Z n f p))∧Turn w g A B Z n (drF A B Z n f p) w':=by
 obtain⟨W,hW,hbW,hsW,hqW,hpW⟩:=box_pp w g p
 have hgl:=hx.lt
 have hxW:=hx.below hbW hgl
 have HF:=Lib.hid (formed_any g A B Z ao n cap f W hxW hB (hs.later hbW))
 cases hp:formB A B Z n f with
 | false=>
  rw[hp] at HF
  have HV:Hid (drE A B Z n f p=1∧drF A B Z n f p=f):=Lib.hid (by
   have e:drB A B Z n f p=false:=by unfold drB; rw[hp]; rfl
   unfold drE drF; rw[e]; exact⟨rfl,rfl⟩)
  clear hp
  go_enter Tryz.func98,Tryz.ntmps98
  go_wp2_with fail
  rw[←hW]
  clear hW
  refine HF.out.mono ?_
  rintro _ w1 ⟨rfl,hb1⟩
  dsimp only
  go_wp2_with fail
  go_ret
  exact⟨by rw[HV.out.1]; rfl,by rw[HV.out.2]; exact Turn.same hx hs (hbW.trans (hb1.mono (by omega)))⟩
 | true=>
  rw[hp] at HF
  have HAp:=ap_of hp
  have HPC:=Lib.hid (fun w'=>places_any A B Z p ao n cap w' HAp hpA hpB)
  have hn0:=n_of hp
  have hbd:=bd_of hp hs.byte
  have hpos:=pos_of hp
  obtain⟨b,off,rfl,hbl,hnc,hcc⟩:=bytes_tab hs.lies hpos
  go_enter Tryz.func98,Tryz.ntmps98
  go_wp2_with fail
  rw[←hW]
  clear hW
  refine HF.out.mono ?_
  rintro _ w1 ⟨rfl,hb1⟩
  dsimp only
  have HQ:=Lib.hid (fun w' (hw':Below w1.heap.size w1 w')=>(hw'.cell (p:=⟨w.heap.size,0,none⟩) (show w.heap.size < w1.heap.size by have:=hb1.size; omega)).trans ((hb1.cell (p:=⟨w.heap.size,0,none⟩) (show w.heap.size < W.heap.size by omega)).trans hqW))
  have HX:=Lib.hid (fun w' (hw':Below w1.heap.size w1 w')=>(hxW.below hb1 (by omega)).below hw' (by have:=hb1.size; omega))
  have HR:=Lib.hid (fun w' (hw':Below w1.heap.size w1 w')=>Pt.rP ((hw'.block (w.heap.size+1) (by have:=hb1.size; omega)).trans ((hb1.block (w.heap.size+1) (by omega)).trans hpW)))
  go_wp2_with fail
  refine QuietTail2.regionInv (n:=10) (Inv:=DrInv _ _ _ _ _ _ _ _ _ _ _ _ _ _ _ _ _ w.heap.size g A B Z (some ⟨b,off,none⟩) n cap p w1) (by kernel_rfl) (by decide) (by kernel_rfl) ⟨_,_,_,_,_,_,_,_,_,_,rfl,Pc.start⟩ ?step ?fin
  case step=>
   rintro i o hi ho L a' w' ⟨u0,u1,u2,u3,u4,u5,u6,u7,u8,u9,rfl,TT⟩ hL hpre
   match i,hi with
   | 0,_=>
    simp at ho
    subst ho
    have k0:=HQ.out w' TT.be
    go_simp
    exact⟨_,u1,u2,u3,u4,u5,u6,u7,u8,u9,rfl,TT.set0⟩
   | 1,_=>
    simp at ho
    subst ho
    obtain rfl:=TT.a0 (hpre 0 (by kernel_rfl))
    go_simp
    exact⟨_,_,u2,u3,u4,u5,u6,u7,u8,u9,rfl,TT.set1⟩
   | 2,_=>
    simp at ho
    subst ho
    obtain rfl:=TT.a1 (hpre 1 (by kernel_rfl))
    have k0:=(HX.out w' TT.be).c0
    have k1:=(HX.out w' TT.be).c1
    have k2:=(HX.out w' TT.be).c2
    have k3:=(HX.out w' TT.be).c3
    go_simp
    exact⟨u0,_,_,u3,u4,u5,u6,u7,u8,u9,rfl,TT.set2⟩
   | 3,_=>
    simp at ho
    subst ho
    refine wp_load_mid 24 (.tmp 3) rfl (w.heap.size+1) 0 rfl (Pt.pV p) _ (HR.out w' TT.be) Pt.undP rfl (Pt.sizeP p) ?_
    simp only[Act.put,aA]
    exact⟨u0,u1,u2,_,u4,u5,u6,u7,u8,u9,rfl,TT.set3⟩
   | 4,_=>
    simp at ho
    subst ho
    obtain rfl:=TT.a2 (hpre 2 (by kernel_rfl))
    obtain rfl:=TT.a3 (hpre 3 (by kernel_rfl))
    go_simp
    refine(HPC.out w').mono ?_
    rintro _ w'' ⟨v,rfl,hv,hbv⟩
    exact⟨u0,u1,_,_,_,u5,u6,u7,u8,u9,rfl,TT.call4 ⟨v,rfl,hv⟩ hbv⟩
   | 5,_=>
    simp at ho
    subst ho
    have hv:=TT.a4 (hpre 4 (by kernel_rfl))
    go_simp
    exact⟨u0,u1,u2,u3,u4,_,u6,u7,u8,u9,rfl,TT.set5 hv⟩
   | 6,_=>
    simp at ho
    subst ho
    obtain⟨v,rfl,hv⟩:=TT.a5 (hpre 5 (by kernel_rfl))
    go_simp
    exact⟨u0,u1,u2,u3,u4,_,_,u7,u8,u9,rfl,TT.set6 hv⟩
   | 7,_=>
    simp at ho
    subst ho
    obtain⟨v,rfl,hv⟩:=TT.a5 (hpre 5 (by kernel_rfl))
    go_simp
    exact⟨u0,u1,u2,u3,u4,_,u6,_,u8,u9,rfl,TT.set7⟩
   | 8,_=>
    simp at ho
    subst ho
    have hv:=TT.a6 (hpre 6 (by kernel_rfl))
    go_simp
    exact⟨u0,u1,u2,u3,u4,u5,u6,u7,_,u9,rfl,TT.set8 hv⟩
   | 9,_=>
    simp at ho
    subst ho
    obtain rfl:=TT.a7 (hpre 7 (by kernel_rfl))
    go_simp
    exact⟨u0,u1,u2,u3,u4,u5,u6,_,u8,_,rfl,TT.set9⟩
   | i+10,h=>omega
  case fin=>
   rintro L a' w5 hall ⟨u0,u1,u2,u3,u4,u5,u6,u7,u8,u9,rfl,TT⟩
   have hv8:=TT.a8 (hall 8 (by omega))
   obtain rfl:=TT.a9 (hall 9 (by omega))
   have hB5:=TT.be
   clear TT hall
   simp only[List.drop_succ_cons,List.drop_zero]
   refine wpList_nil ?_
   cases hpl:plB A B Z p with
   | false=>
    have HV:Hid (drE A B Z n f p=1∧drF A B Z n f p=f):=Lib.hid (by
     have e:drB A B Z n f p=false:=by unfold drB; rw[hp,hpl]; rfl
     unfold drE drF; rw[e]; exact⟨rfl,rfl⟩)
    clear hp hpl hv8
    go_wp2_with fail
    go_ret
    exact⟨by rw[HV.out.1]; rfl,by rw[HV.out.2]; exact Turn.same hx hs (hbW.trans ((hb1.trans (hB5.mono hb1.size)).mono (by omega)))⟩
   | true=>
    cases hany:anyP A B Z p fun i=>!us (f i) with
    | true=>
     have HV:Hid (drE A B Z n f p=1∧drF A B Z n f p=f):=Lib.hid (by
      have e:drB A B Z n f p=false:=by unfold drB; rw[hp,hpl,hany]; rfl
      unfold drE drF; rw[e]; exact⟨rfl,rfl⟩)
     have hown:=hv8 hpl
     obtain⟨hpg0,hpl0⟩:(∀i,i < (pls A B Z p).length→plL A B Z p i < n∧(pls A B Z p).getD i 0=(plL A B Z p i:Int))∧(pls A B Z p).length≤2:=⟨plL_lt HAp hn0 hpl,pls_len A B Z p⟩
     have HCN:=Lib.hid (contains_idle w.heap.size u8 (pls A B Z p) (fun x=>!us (f x.toNat)) w1.heap.size w5 hown (by omega) (fun j hj=>by
      obtain⟨h1,h2⟩:=hpg0 j hj
      rw[h2]
      have h:=idle_any w.heap.size g b off n cap (plL A B Z p j) A B Z f w5 (HQ.out w5 hB5) (HX.out w5 hB5) h1 ((hB5.cell (p:=⟨b,off+plL A B Z p j,none⟩) (show b < w1.heap.size by have:=hb1.size; omega)).trans ((hb1.cell (p:=⟨b,off+plL A B Z p j,none⟩) (show b < W.heap.size by omega)).trans ((hbW.cell (p:=⟨b,off+plL A B Z p j,none⟩) hbl).trans (hcc _ h1))))
      simpa using h))
     rw[show(pls A B Z p).any (fun x=>!us (f x.toNat))=true from hany] at HCN
     clear hp hpl
     go_wp2_with fail
     refine HCN.out.mono ?_
     rintro _ w6 ⟨rfl,rfl⟩
     dsimp only
     go_wp2_with fail
     go_ret
     exact⟨by rw[HV.out.1]; rfl,by rw[HV.out.2]; exact Turn.same hx hs (hbW.trans ((hb1.trans (hB5.mono hb1.size)).mono (by omega)))⟩
    | false=>
     have HV:Hid (drE A B Z n f p=0∧drF A B Z n f p=bec (nx 0 3 4 0 0) (plL A B Z p) f (pls A B Z p).length):=Lib.hid (by
      have e:drB A B Z n f p=true:=by unfold drB; rw[hp,hpl,hany]; rfl
      unfold drE drF; rw[e]; exact⟨rfl,rfl⟩)
     have hown:=hv8 hpl
     obtain⟨hpg0,hpl0⟩:(∀i,i < (pls A B Z p).length→plL A B Z p i < n∧(pls A B Z p).getD i 0=(plL A B Z p i:Int))∧(pls A B Z p).length≤2:=⟨plL_lt HAp hn0 hpl,pls_len A B Z p⟩
     have HCN:=Lib.hid (contains_idle w.heap.size u8 (pls A B Z p) (fun x=>!us (f x.toNat)) w1.heap.size w5 hown (by omega) (fun j hj=>by
      obtain⟨h1,h2⟩:=hpg0 j hj
      rw[h2]
      have h:=idle_any w.heap.size g b off n cap (plL A B Z p j) A B Z f w5 (HQ.out w5 hB5) (HX.out w5 hB5) h1 ((hB5.cell (p:=⟨b,off+plL A B Z p j,none⟩) (show b < w1.heap.size by have:=hb1.size; omega)).trans ((hb1.cell (p:=⟨b,off+plL A B Z p j,none⟩) (show b < W.heap.size by omega)).trans ((hbW.cell (p:=⟨b,off+plL A B Z p j,none⟩) hbl).trans (hcc _ h1))))
      simpa using h))
     have hY:=hb1.trans (hB5.mono hb1.size)
     have hown:=hv8 hpl
     obtain⟨pa,m,mc,hu8,hmm,hpp⟩:∃(pa:Option Addr) (m mc:Nat),u8=.slice pa m mc∧m=(pls A B Z p).length∧(m=0∨∃pb po,pa=some ⟨pb,po,none⟩∧pb < w5.heap.size∧pb≠g∧∀i,i < m→w5.cell? ⟨pb,po+i,none⟩=some (.int .i64 (plL A B Z p i))):=by
      rcases hown.slice with ⟨e1,e2⟩ | ⟨b8,c8,e1,hb8,hl8,hc8⟩
      ·exact⟨none,0,0,e1,by rw[e2]; rfl,.inl rfl⟩
      ·refine⟨some ⟨b8,0,none⟩,_,c8,e1,rfl,.inr ⟨b8,0,rfl,hl8,by have:=hb1.size; omega,fun i hi=>?_⟩⟩
       rw[Nat.zero_add,hc8 i hi,(hpg0 i hi).2]
     have HBE:=Lib.hid (become_any g A B Z (some ⟨b,off,none⟩) n cap f 0 3 4 0 0 pa m mc (plL A B Z p) w5 (HX.out w5 hB5) ((hs.later (hbW.trans (hY.mono (by omega))))) hpos hbd (nx_bd (by omega)) (by omega) (fun i hi=>(hpg0 i (by omega)).1) hpp)
     have HMM:=Lib.hid hmm
     have q5:=HQ.out w5 hB5
     have HBW:=Lib.hid (hbW.trans (hY.mono (by omega)))
     subst hu8
     clear hpp hmm hv8 hown hpg0 hcc
     rw[show(pls A B Z p).any (fun x=>!us (f x.toNat))=false from hany] at HCN
     clear hp hpl
     go_wp2_with fail
     refine HCN.out.mono ?_
     rintro _ w6 ⟨rfl,rfl⟩
     dsimp only
     go_wp2_with fail
     refine HBE.out.mono ?_
     rintro _ w7 ⟨⟨v7,rfl⟩,hT⟩
     dsimp only
     go_wp2_with fail
     go_ret
     exact⟨by rw[HV.out.1]; rfl,by rw[HV.out.2,←HMM.out]; exact hT.after HBW.out⟩
end Sp
end Go.Proofs.YteaocagepfgfnaaGreatDoor
