import Derived.Test.YteaocagepfgfnaaGreatDoorPJSpA
import Derived.Test.YteaocagepfgfnaaGreatDoorPJSh
import Derived.BigRegion
import Derived.Laws.Cover3
set_option maxRecDepth 100000
set_option maxHeartbeats 8000000
namespace Go.Proofs.YteaocagepfgfnaaGreatDoor
namespace Sp
open Go.RowKit Dk Eqb Byt
section
variable {w w':World}{g:Nat}{A B Z:Int}{ao:Option Addr}{n cap:Nat}
theorem Bq.s0(h:Bq w g A B Z ao n cap)(x:Int):Bq (w.setCell ⟨g,0,none⟩ (.int .i64 x)) g x B Z ao n cap:=by unfold Bq; rw[heap_setCell_same w g 0 _ _ _ h]; rfl
theorem Bq.s1(h:Bq w g A B Z ao n cap)(x:Int):Bq (w.setCell ⟨g,1,none⟩ (.int .i64 x)) g A x Z ao n cap:=by unfold Bq; rw[heap_setCell_same w g 1 _ _ _ h]; rfl
theorem Bq.s2(h:Bq w g A B Z ao n cap)(x:Int):Bq (w.setCell ⟨g,2,none⟩ (.int .i64 x)) g A B x ao n cap:=by unfold Bq; rw[heap_setCell_same w g 2 _ _ _ h]; rfl
theorem undS:Tryz.prog.underlying 41=some (.struct (Tryz.prog.fieldsOf 41)):=by kernel_rfl
theorem Bq.results2{tmps:Array Value}{fn:Func}{s r:Nat}{e:Int}(hf:fn.results=#[.cell s 41,.tmp r])(h2:tmps.getD s undef=.pointer (some ⟨g,0,none⟩))(h3:tmps.getD r undef=.int .i64 e)(kV:Bq w g A B Z ao n cap) :
  (results fn tmps).run Tryz.prog w=.ok (.tuple #[.agg #[.int .i64 A,.int .i64 B,.int .i64 Z,.slice ao n cap],.int .i64 e]) w:=by
 have h2':tmps[s]?.getD undef=.pointer (some ⟨g,0,none⟩):=by simpa using h2
 have h3':tmps[r]?.getD undef=.int .i64 e:=by simpa using h3
 have hv:=run_loadVar_row (P:=Tryz.prog) w g 41 41 #[.int .i64 A,.int .i64 B,.int .i64 Z,.slice ao n cap] (0,0) _ kV undS rfl (by kernel_rfl)
 simp[Go.results,hf,h2',h3',asAddr,hv]
end
theorem zvSp(w:World):(zeroValue 41).run Tryz.prog w=.ok (.agg #[.int .i64 0,.int .i64 0,.int .i64 0,.slice none 0 0]) w:=(zero_of_info (P:=Tryz.prog) (t:=41) (v:=.agg #[.int .i64 0,.int .i64 0,.int .i64 0,.slice none 0 0]) (n:=4) (by kernel_rfl)).1 w
def OwnS(w:World)(base:Nat)(ao:Option Addr)(n cap:Nat)(f:Nat→Int):Prop:=w.ownsRow base 5 1 (.slice ao n cap) n (bys (tab n f))
theorem OwnS.of_row{w:World}{b n base:Nat}{f:Nat→Int}(h:w.heap[b]?=some (.cells (Sha.arr n (Sha.vu8 f)) 5 (0,0)))(hb:base≤b)(hn:n≤140737488355328):OwnS w base (some ⟨b,0,none⟩) n n f:=
 ⟨by simp[bys,tab],.inr ⟨b,n,_,rfl,hb,h,Nat.le_refl _,by unfold maxLen; omega,by rw[Sha.arr_size,Nat.mul_one],by
  rw[Sha.arr_bys,List.take_of_length_le (by simp[Sha.bys])]; rfl⟩⟩
theorem OwnS.block{w w':World}{base:Nat}{ao:Option Addr}{n cap:Nat}{f:Nat→Int}(h:OwnS w base ao n cap f)(hk:∀b off,ao=some ⟨b,off,none⟩→w'.heap[b]?=w.heap[b]?):OwnS w' base ao n cap f:=by
 obtain⟨h1,h2⟩:=h
 refine⟨h1,?_⟩
 rcases h2 with h2 | ⟨g,cap',cur,hv,hb,hg,h5,h6,h7,h8⟩
 ·exact .inl h2
 ·injection hv with e1 e2 e3
  subst e1
  exact .inr ⟨g,cap',cur,by rw[e3],hb,(hk g 0 rfl).trans hg,h5,h6,h7,h8⟩
theorem OwnS.lt{w:World}{base:Nat}{ao:Option Addr}{n cap:Nat}{f:Nat→Int}(h:OwnS w base ao n cap f){b off:Nat}(e:ao=some ⟨b,off,none⟩):base≤b∧b < w.heap.size:=by
 subst e
 exact World.ownsRow.lt h b rfl
theorem OwnS.below{w w':World}{base:Nat}{ao:Option Addr}{n cap:Nat}{f:Nat→Int}(h:OwnS w base ao n cap f)(hb:Below w.heap.size w w'):OwnS w' base ao n cap f:=h.block fun b _off e=>hb.block b (h.lt e).2
theorem OwnS.lies{w:World}{base:Nat}{ao:Option Addr}{n cap:Nat}{f:Nat→Int}(h:OwnS w base ao n cap f):Lies w w.heap.size ao cap (tab n f):=by
 have e:(tab n f).length=n:=by simp[tab]
 have:=lies_own (xs:=tab n f) (ao:=ao) (cap:=cap) (base:=base) (w:=w) (by rw[e]; exact h)
 exact this
theorem OwnS.st{w:World}{base:Nat}{ao:Option Addr}{n cap:Nat}{f:Nat→Int}(h:OwnS w base ao n cap f)(hf:∀i,i < n→0≤f i∧f i < 256)(hn:n≤140737488355328):St w w.heap.size ao n cap f:=⟨h.lies,hf,hn⟩
theorem set4(w:World)(g k:Nat)(v0 v1 v2 v3:Value)(h:k≠g):((((w.setCell ⟨g,0,none⟩ v0).setCell ⟨g,1,none⟩ v1).setCell ⟨g,2,none⟩ v2).setCell ⟨g,3,none⟩ v3).heap[k]?=w.heap[k]?:=by
 rw[heap_setCell_other _ _ _ _ h,heap_setCell_other _ _ _ _ h,heap_setCell_other _ _ _ _ h,heap_setCell_other _ _ _ _ h]
def nwS(A B Z x:Int):Int:=if apartB A B Z then x else 0
def nwN(A B Z:Int):Nat:=if apartB A B Z then 2 * Z.toNat else 0
def nwE(A B Z:Int):Int:=if apartB A B Z then 0 else 1
section
attribute [local go_sem] zvSp
theorem nw_start(w:World)(A B Z:Int):∃W,W=(w.alloc (.cells #[.int .i64 0,.int .i64 0,.int .i64 0,.slice none 0 0] 41)).alloc (.cells #[.int .i64 A,.int .i64 B,.int .i64 Z,.slice none 0 0] 41)∧Below w.heap.size w W∧Bq W w.heap.size 0 0 0 none 0 0∧Bq W (w.heap.size+1) A B Z none 0 0∧W.heap.size=w.heap.size+2:=by
 refine⟨_,rfl,((Below.refl _ _).alloc (Nat.le_refl _) _).alloc (by simp) _,?_,?_,by simp⟩
 ·unfold Bq
  rw[Below.heap_alloc _ _ _ (by simp),heap_alloc_new]
 ·unfold Bq
  have:=heap_alloc_new (w.alloc (.cells #[.int .i64 0,.int .i64 0,.int .i64 0,.slice none 0 0] 41)) (.cells #[.int .i64 A,.int .i64 B,.int .i64 Z,.slice none 0 0] 41)
  rwa [World.size_alloc] at this
theorem New_any(A B Z:Int)(w:World)(hB:i64 B) :
  Calls Tryz.prog 96 #[.int .i64 A,.int .i64 B,.int .i64 Z] w fun e w'=>∃ao cap,e=.returned (.tuple #[.agg #[.int .i64 (nwS A B Z A),.int .i64 (nwS A B Z B),.int .i64 (nwS A B Z Z),.slice ao (nwN A B Z) cap],.int .i64 (nwE A B Z)])∧OwnS w' w.heap.size ao (nwN A B Z) cap (fun _=>0)∧Below w.heap.size w w':=by
 obtain⟨W,hW,hbW,hx6,hx8,hsW⟩:=nw_start w A B Z
 have HA:=Lib.hid (apart_any A B Z none 0 0 W hB)
 unfold nwS nwN nwE
 cases hp:apartB A B Z with
 | false=>
  rw[hp] at HA
  clear hp
  go_enter Tryz.func96,Tryz.ntmps96
  go_wp2_with fail
  rw[←hW]
  clear hW
  refine HA.out.mono ?_
  rintro _ w1 ⟨rfl,hb1⟩
  dsimp only
  have y6:=hx6.below hb1 (by omega)
  have f0:=y6.fr 0
  have f1:=y6.fr 1
  have f2:=y6.fr 2
  have f3:=y6.fr 3
  have d0:=y6.c0
  have d1:=y6.c1
  have d2:=y6.c2
  have d3:=y6.c3
  go_wp2_with fail
  refine bodyPost_ret (Bq.results2 rfl rfl rfl ((((y6.s0 0).s1 0).s2 0).s3 none 0 0)) rfl ?_
  exact⟨none,0,rfl,⟨rfl,.inl ⟨rfl,rfl⟩⟩,((((hbW.trans (hb1.mono (by omega))).setCell (Nat.le_refl _) _).setCell (Nat.le_refl _) _).setCell (Nat.le_refl _) _).setCell (Nat.le_refl _) _⟩
 | true=>
  rw[hp] at HA
  obtain⟨h1,h2,h3,h4,h5⟩:=apartB_iff.1 hp
  obtain⟨z,rfl⟩:∃z:Nat,Z=z:=⟨Z.toNat,by omega⟩
  have hmk:=Sha.run_make_bytes (2 * z) (by omega)
  rw[show((2 * z:Nat):Int)=2 * (z:Int) by omega] at hmk
  have hz2:(z:Int)≤2000:=by omega
  clear hp
  simp only[if_true,Int.toNat_natCast]
  go_enter Tryz.func96,Tryz.ntmps96
  go_wp2_with fail
  rw[←hW]
  clear hW
  refine HA.out.mono ?_
  rintro _ w1 ⟨rfl,hb1⟩
  dsimp only
  have HB:=Lib.hid (hbW.trans (hb1.mono (by omega)))
  obtain⟨w2,hw2⟩:∃w2,w2=w1.alloc (.cells (Sha.arr (2 * z) (Sha.vu8 fun _=>0)) 5):=⟨_,rfl⟩
  have hs1:=hb1.size
  have hk:∀k,k < w1.heap.size→w2.heap[k]?=w1.heap[k]?:=fun k h=>by rw[hw2]; exact Below.heap_alloc _ _ _ h
  have y6:Bq w2 w.heap.size 0 0 0 none 0 0:=(hx6.below hb1 (by omega)).block (hk _ (by omega))
  have y8:Bq w2 (w.heap.size+1) A B z none 0 0:=(hx8.below hb1 (by omega)).block (hk _ (by omega))
  have hr2:w2.heap[w1.heap.size]?=some (.cells (Sha.arr (2 * z) (Sha.vu8 fun _=>0)) 5 (0,0)):=by rw[hw2]; exact heap_alloc_new _ _
  have hb2:Below w.heap.size w w2:=by rw[hw2]; exact HB.out.alloc (by omega) _
  have y8':=y8.s3 (some ⟨w1.heap.size,0,none⟩) (2 * z) (2 * z)
  have y6':=y6.block (heap_setCell_other w2 ⟨w.heap.size+1,3,none⟩ w.heap.size (.slice (some ⟨w1.heap.size,0,none⟩) (2 * z) (2 * z)) (show w.heap.size≠w.heap.size+1 by omega))
  obtain⟨w3,hw3⟩:∃w3,w3=w2.setCell ⟨w.heap.size+1,3,none⟩ (.slice (some ⟨w1.heap.size,0,none⟩) (2 * z) (2 * z)):=⟨_,rfl⟩
  have hr3:w3.heap[w1.heap.size]?=some (.cells (Sha.arr (2 * z) (Sha.vu8 fun _=>0)) 5 (0,0)):=by rw[hw3]; exact(heap_setCell_other _ _ _ _ (show w1.heap.size≠w.heap.size+1 by omega)).trans hr2
  have hb3:Below w.heap.size w w3:=by rw[hw3]; exact hb2.setCell (show w.heap.size≤w.heap.size+1 by omega) _
  rw[←hw3] at y8' y6'
  have c2:=(hx8.below hb1 (by omega)).c2
  have e3:=y8.c3
  have ef:=y8.fr 3
  have d0:=y8'.c0
  have d1:=y8'.c1
  have d2:=y8'.c2
  have d3:=y8'.c3
  have g0:=y6'.c0
  have g1:=y6'.c1
  have g2:=y6'.c2
  have g3:=y6'.c3
  have f0:=y6'.fr 0
  have f1:=y6'.fr 1
  have f2:=y6'.fr 2
  have f3:=y6'.fr 3
  have HW2:=Lib.hid hw2
  have HW3:=Lib.hid hw3
  clear hw2 hw3 hk hr2 y8 y6 hb2 hx6 hx8
  go_wp2_with (first | rw[←HW2.out] | rw[←HW3.out])
  refine bodyPost_ret (Bq.results2 rfl rfl rfl ((((y6'.s0 A).s1 B).s2 z).s3 (some ⟨w1.heap.size,0,none⟩) (2 * z) (2 * z))) rfl ?_
  exact⟨some ⟨w1.heap.size,0,none⟩,2 * z,rfl,OwnS.of_row ((set4 w3 _ _ _ _ _ _ (show w1.heap.size≠w.heap.size by omega)).trans hr3) (by omega) (by omega),(((hb3.setCell (Nat.le_refl _) _).setCell (Nat.le_refl _) _).setCell (Nat.le_refl _) _).setCell (Nat.le_refl _) _⟩
end
section
attribute [local go_sem] zvSp
end
end Sp
namespace Sp
open Go.RowKit Dk Eqb Byt
def fz(F:Nat→Int):Nat→Int
 | 0=>-1
 | k+1=>if 0≤fz F k then fz F k else if F k == 0 then (k:Int) else -1
theorem fz_lt(F:Nat→Int):∀k:Nat,-1≤fz F k∧fz F k < k
 | 0=>by simp[fz]
 | k+1=>by
  have:=fz_lt F k
  rw[fz]
  split
  ·omega
  ·split <;> omega
theorem fz_at{F:Nat→Int}:∀{k i:Nat},fz F k=i→F i=0
 | 0,i,h=>by
  rw[fz] at h
  omega
 | k+1,i,h=>by
  rw[fz] at h
  split at h
  ·exact fz_at h
  ·split at h
   ·rename_i e
    obtain rfl:k=i:=by omega
    simpa using e
   ·omega
theorem fz_none{F:Nat→Int}:∀{k:Nat},fz F k < 0→∀i,i < k→F i≠0
 | 0,_,i,hi=>by omega
 | k+1,h,i,hi=>by
  rw[fz] at h
  split at h
  ·omega
  ·split at h
   ·omega
   ·rename_i h1 e
    by_cases e2:i=k
    ·subst e2; simpa using e
    ·exact fz_none (k:=k) (show fz F k < 0 by omega) i (by omega)
theorem fz_stay{F:Nat→Int}{k:Nat}:∀{m:Nat},k≤m→0≤fz F k→fz F m=fz F k
 | 0,h,h0=>by obtain rfl:k=0:=by omega
              rfl
 | m+1,h,h0=>by
  by_cases e:k=m+1
  ·rw[e]
  ·have ih:=fz_stay (F:=F) (k:=k) (m:=m) (by omega) h0
   rw[fz,if_pos (by omega),ih]
theorem fz_here{F:Nat→Int}{k m:Nat}(hk:k < m)(h:fz F k < 0)(e:F k=0):fz F m=k:=by
 have h1:fz F (k+1)=k:=by rw[fz,if_neg (by omega),if_pos (by simpa using e)]
 rw[fz_stay (k:=k+1) (by omega) (by omega),h1]
theorem fz_next{F:Nat→Int}{k:Nat}(h:fz F k < 0)(e:(F k == 0)=false):fz F (k+1) < 0:=by
 rw[fz,if_neg (by omega),e]
 simp
theorem fz_m1{F:Nat→Int}{k:Nat}(h:fz F k < 0):fz F k = -1:=by have:=fz_lt F k; omega
theorem formed_any(g:Pl)(A B Z:Int)(ao:Option Addr)(n cap:Nat)(f:Nat→Int)(w:World)(hx:Bs w g A B Z ao n cap)(hB:i64 B)(hs:St w w.heap.size ao n cap f) :
  Calls Tryz.prog 129 #[.pointer (some ⟨g.b,g.o,none⟩)] w fun e w'=>e=.returned (.bool (formB A B Z n f))∧Below w.heap.size w w':=by
 have h0:=hx.c0
 have h1:=hx.c1
 have h2:=hx.c2
 have h3:=hx.c3
 have HF:=Lib.hid (Formed_any A B Z ao n cap f w hB hs.room hs.lies)
 generalize formB A B Z n f=v at HF
 clear hs
 go_enter Tryz.func129,Tryz.ntmps129
 go_wp2_with fail
 refine HF.out.mono ?_
 rintro _ w1 ⟨rfl,hb1⟩
 dsimp only
 go_wp2_with fail
 go_ret
 exact⟨rfl,hb1⟩
theorem index_any(b off z cap:Nat)(F:Nat→Int)(w:World)(hz:z≤140737488355328)(hc:∀i,i < z→w.cell? ⟨b,off+i,none⟩=some (.int .u8 (F i))) :
  Calls Tryz.prog 165 #[.slice (some ⟨b,off,none⟩) z cap,.int .u8 0] w fun e w'=>e=.returned (.int .i64 (fz F z))∧w'=w:=by
 have HC:=Lib.hid hc
 clear hc
 go_enter Tryz.func165,Tryz.ntmps165
 go_wp2_with fail
 go_loop [8] (fun i=>∃j:Nat,j≤z∧i=.int .i64 j∧Hid (fz F j < 0)) (fun i=>z - (intOf i).toNat)
 case atStart=>exact⟨0,by omega,rfl,Lib.hid (by simp[fz])⟩
 case round=>
  obtain⟨j,hj,rfl,hR⟩:=hrel
  by_cases hlt:j < z
  ·have hcj:=HC.out j hlt
   have hj0:(0:Int)≤(j:Int):=by omega
   have hjn:(j:Int) < (z:Int):=by omega
   have HY:=Lib.hid (fun e=>fz_here hlt hR.out e)
   have HO:=Lib.hid (fun e=>fz_next hR.out e)
   generalize F j=v at hcj HY HO
   cases hv:v == 0 with
   | true=>
    have HV:=Lib.hid (HY.out (by simpa using hv))
    have hv':(0 == v)=true:=by rw[BEq.comm]; exact hv
    clear HY HO hR
    go_wp2_with fail
    go_ret
    exact⟨by rw[HV.out]; rfl,rfl⟩
   | false=>
    have HV:=Lib.hid (HO.out hv)
    have hv':(0 == v)=false:=by rw[BEq.comm]; exact hv
    clear HY HO hR
    go_wp2_with fail
    go_round
    case rel=>exact⟨j+1,by omega,by go_num,HV⟩
    case measure=>simp[intOf]; omega
  ·obtain rfl:j=z:=by omega
   have HV:=Lib.hid (fz_m1 hR.out)
   clear hR
   go_wp2_with fail
   go_ret
   exact⟨by rw[HV.out]; rfl,rfl⟩
def ff(A:Int)(F:Nat→Int)(z:Nat):Int:=if fz F z < 0 then -1 else A+fz F z
theorem ff_no{A:Int}{F:Nat→Int}{z:Nat}(h:fz F z < 0):ff A F z = -1:=if_pos h
theorem ff_yes{A:Int}{F:Nat→Int}{z:Nat}(h:¬ fz F z < 0):ff A F z=A+fz F z:=if_neg h
theorem firstFree0_any(A B:Int)(z b off n cap:Nat)(f:Nat→Int)(w:World)(hz1:1≤z)(hz2:z≤2000)(hn:n=2 * z)(hnc:n≤cap)(hA:0≤A∧A≤4096)(hB:0≤B∧B≤4096)(hb:b < w.heap.size)(hc:∀i,i < n→w.cell? ⟨b,off+i,none⟩=some (.int .u8 (f i))) :
  Calls Tryz.prog 142 #[.agg #[.int .i64 A,.int .i64 B,.int .i64 z,.slice (some ⟨b,off,none⟩) n cap],.int .i64 0] w fun e w'=>e=.returned (.int .i64 (ff A f z))∧Below w.heap.size w w':=by
 obtain⟨W,hW,hbW,hsW,hxW⟩:=box_sp w A B z (some ⟨b,off,none⟩) n cap
 have HC:=Lib.hid hc
 have HP:=Lib.hid (region0_any A B z b off n cap W hz1 hz2 hn hnc)
 have HI:=Lib.hid (fun(w1:World) (hb1:Below W.heap.size W w1)=>index_any b (off) z (cap) f w1 (by omega) fun i hi=>(hb1.cell (p:=⟨b,off+i,none⟩) (by show b < W.heap.size; omega)).trans ((hbW.cell (p:=⟨b,off+i,none⟩) hb).trans (HC.out i (by omega))))
 have hfl:=fz_lt f z
 obtain⟨hA1,hA2⟩:=hA
 obtain⟨hB1,hB2⟩:=hB
 have HY:=Lib.hid (fun h=>ff_yes (A:=A) (F:=f) (z:=z) h)
 have HO:=Lib.hid (fun h=>ff_no (A:=A) (F:=f) (z:=z) h)
 clear hc hn
 generalize fz f z=k at *
 obtain⟨hk1,hk2⟩:=hfl
 go_enter Tryz.func142,Tryz.ntmps142
 go_wp2_with fail
 rw[←hW]
 clear hW
 refine HP.out.mono ?_
 rintro _ w1 ⟨rfl,hb1⟩
 dsimp only
 have d0:=(hxW.below hb1 (by omega)).c0
 have d1:=(hxW.below hb1 (by omega)).c1
 go_wp2_with fail
 refine(HI.out w1 hb1).mono ?_
 rintro _ w2 ⟨rfl,rfl⟩
 dsimp only
 by_cases hk:k < 0
 ·have HV:=Lib.hid (HO.out hk)
  go_wp2_with fail
  go_ret
  exact⟨by rw[HV.out]; rfl,hbW.trans (hb1.mono (by omega))⟩
 ·have HV:=Lib.hid (HY.out (by omega))
  go_wp2_with fail
  go_ret
  exact⟨by rw[HV.out]; rfl,hbW.trans (hb1.mono (by omega))⟩
theorem firstFree1_any(A B:Int)(z b off n cap:Nat)(f:Nat→Int)(w:World)(hz1:1≤z)(hz2:z≤2000)(hn:n=2 * z)(hnc:n≤cap)(hA:0≤A∧A≤4096)(hB:0≤B∧B≤4096)(hb:b < w.heap.size)(hc:∀i,i < n→w.cell? ⟨b,off+i,none⟩=some (.int .u8 (f i))) :
  Calls Tryz.prog 142 #[.agg #[.int .i64 A,.int .i64 B,.int .i64 z,.slice (some ⟨b,off,none⟩) n cap],.int .i64 1] w fun e w'=>e=.returned (.int .i64 (ff B (fun i=>f (z+i)) z))∧Below w.heap.size w w':=by
 obtain⟨W,hW,hbW,hsW,hxW⟩:=box_sp w A B z (some ⟨b,off,none⟩) n cap
 have HC:=Lib.hid hc
 have HP:=Lib.hid (region1_any A B z b off n cap W hz1 hz2 hn hnc)
 have HI:=Lib.hid (fun(w1:World) (hb1:Below W.heap.size W w1)=>index_any b (off+z) z (cap - z) (fun i=>f (z+i)) w1 (by omega) fun i hi=>(hb1.cell (p:=⟨b,off+z+i,none⟩) (by show b < W.heap.size; omega)).trans ((hbW.cell (p:=⟨b,off+z+i,none⟩) hb).trans ((congrArg (fun o=>w.cell? ⟨b,o,none⟩) (Nat.add_assoc off z i)).trans (HC.out (z+i) (by omega)))))
 have hfl:=fz_lt (fun i=>f (z+i)) z
 obtain⟨hA1,hA2⟩:=hA
 obtain⟨hB1,hB2⟩:=hB
 have HY:=Lib.hid (fun h=>ff_yes (A:=B) (F:=(fun i=>f (z+i))) (z:=z) h)
 have HO:=Lib.hid (fun h=>ff_no (A:=B) (F:=(fun i=>f (z+i))) (z:=z) h)
 clear hc hn
 generalize fz (fun i=>f (z+i)) z=k at *
 obtain⟨hk1,hk2⟩:=hfl
 go_enter Tryz.func142,Tryz.ntmps142
 go_wp2_with fail
 rw[←hW]
 clear hW
 refine HP.out.mono ?_
 rintro _ w1 ⟨rfl,hb1⟩
 dsimp only
 have d0:=(hxW.below hb1 (by omega)).c0
 have d1:=(hxW.below hb1 (by omega)).c1
 go_wp2_with fail
 refine(HI.out w1 hb1).mono ?_
 rintro _ w2 ⟨rfl,rfl⟩
 dsimp only
 by_cases hk:k < 0
 ·have HV:=Lib.hid (HO.out hk)
  go_wp2_with fail
  go_ret
  exact⟨by rw[HV.out]; rfl,hbW.trans (hb1.mono (by omega))⟩
 ·have HV:=Lib.hid (HY.out (by omega))
  go_wp2_with fail
  go_ret
  exact⟨by rw[HV.out]; rfl,hbW.trans (hb1.mono (by omega))⟩
end Sp
namespace Sp
open Go.RowKit Dk Eqb Byt
theorem only_new{g b:Nat}{a w:World}(h:a.grownBy w (some g))(hb:a.heap.size≤b)(j:Nat)(v:Value):a.grownBy (w.setCell ⟨b,j,none⟩ v) (some g):=
 ⟨h.os,h.tape,h.output,by have:=h.size; simpa using this,fun k hk hr=>(Below.heap_setCell _ _ _ _ (show k≠b by omega)).trans (h.block k hk hr)⟩
theorem oB{g:Nat}{a w w':World}(h:a.grownBy w (some g))(hb:Below w.heap.size w w'):a.grownBy w' (some g):=
 ⟨hb.os.trans h.os,hb.tape.trans h.tape,hb.output.trans h.output,Nat.le_trans h.size hb.size,fun k hk hr=>(hb.block k (Nat.lt_of_lt_of_le hk h.size)).trans (h.block k hk hr)⟩
theorem St.apart{w:World}{K n cap n' cap' b off:Nat}{g:Pl}{A B Z:Int}{ao':Option Addr}{f:Nat→Int}(h:St w K (some ⟨b,off,none⟩) n cap f)(hn:0 < n)(hx:Bs w g A B Z ao' n' cap'):b≠g.b:=by
 rintro rfl
 obtain⟨b',off',e,_,_,hc⟩:=bytes_tab h.lies hn
 injection e with e
 injection e with e1 e2
 subst e1 e2
 exact hx.noB _ _ (hc 0 hn)
theorem St.keepG{w w':World}{K:Nat}{g:Pl}{n cap n' cap':Nat}{A B Z:Int}{ao ao':Option Addr}{f:Nat→Int}(h:St w K ao n cap f)(hK:K≤w.heap.size)(hx:Bs w g A B Z ao' n' cap')(hg:w.grownBy w' (some g.b)):St w' w'.heap.size ao n cap f:=by
 refine⟨⟨h.lies.room,h.lies.nil,fun hne=>?_⟩,h.byte,h.room⟩
 obtain⟨b,off,e,hb,hc⟩:=h.lies.cells hne
 have hn:0 < n:=by
  rcases Nat.eq_zero_or_pos n with h0 | h0
  ·exact absurd (by rw[h0]; rfl) hne
  ·exact h0
 subst e
 have hbg:=h.apart hn hx
 have hbl:w'.heap[b]?=w.heap[b]?:=hg.block b (by omega) (by simpa using hbg)
 exact⟨b,off,rfl,by have:=hg.size; omega,fun i hi=>(World.cell?_of_block (a:=⟨b,off+i,none⟩) hbl).trans (hc i hi)⟩
structure Turn(w:World)(g:Pl)(A B Z:Int)(n:Nat)(f:Nat→Int)(w':World):Prop where
 sp:∃ao cap,Bs w' g A B Z ao n cap∧St w' w'.heap.size ao n cap f
 only:w.grownBy w' (some g.b)
 loc:∀b off cap,Bs w' g A B Z (some ⟨b,off,none⟩) n cap→g < w.heap.size→w.heap.size≤b∨∃cap',Bs w g A B Z (some ⟨b,off,none⟩) n cap'
theorem Bs.same{w:World}{g:Pl}{n n' cap cap':Nat}{A B Z:Int}{ao ao':Option Addr}(h:Bs w g A B Z ao n cap)(h':Bs w g A B Z ao' n' cap'):ao=ao':=by
 have:=h.c3.symm.trans h'.c3
 injection this with this
 injection this
theorem eqlnilB(w:World)(a:Option Addr)(l c:Nat):(binOp .eql 39 (.slice a l c) (.slice none 0 0)).run Tryz.prog w=.ok (.bool a.isNone) w:=by
 simp only[binOp]
 simp[run_equal_slice_nil w _ _ a l c bytes_slice]
theorem clone_any(ao:Option Addr)(n cap:Nat)(f:Nat→Int)(w:World)(hs:St w w.heap.size ao n cap f)(h1:0 < n) :
  Calls Tryz.prog 157 #[.slice ao n cap] w fun e w'=>∃b cap',e=.returned (.slice (some ⟨b,0,none⟩) n cap')∧w.heap.size≤b∧n≤cap'∧Row w' b 0 n f∧Below w.heap.size w w':=by
 obtain⟨b0,off0,rfl,hb0,_,_⟩:=bytes_tab hs.lies h1
 have hl:=hs.lies
 have hr:=hs.room
 have HE:Hid ((tab n f).length=n):=Lib.hid (by simp[tab])
 have hq:=fun(w:World)=>eqlnilB w (some ⟨b0,off0,none⟩) n cap
 clear hs
 go_enter Tryz.func157,Tryz.ntmps157
 go_wp2_with (at_builtin; go_loud (refine append_lies rfl (.tmp 5) (.tmp 6) rfl w.heap.size _ [] rfl (World.ownsRow_lit w #[] 0 (Nat.le_refl _) (by decide) rfl) w.heap.size (some ⟨b0,off0,none⟩) cap (tab n f) n HE.out.symm rfl (hl.keep fun p hp=>World.cell?_alloc_lt _ _ _ hp) (by rw[HE.out]; simp; omega) (by simp) ?_); intro v' w' hown hg)
 have hown':w'.ownsRow w.heap.size 5 1 v' n (bys (tab n f)):=by
  rw[List.nil_append,HE.out] at hown
  exact hown
 have hb:Below w.heap.size w w':=((Below.refl _ _).alloc (Nat.le_refl _) _).grown hg (by simp) (by
  intro k hk
  injection hk with hk
  subst hk
  exact Nat.le_refl _)
 rcases row_own HE.out.symm hown' with ⟨_,h0⟩ | ⟨g,cap',rfl,hgb,hc,_,hrow⟩
 ·omega
 ·go_ret
  exact⟨g,cap',rfl,hgb,hc,hrow.congr fun j hj=>tab_getD n f hj,hb⟩
def nx(a b c d e:Int):Nat→Int
 | 0=>a
 | 1=>b
 | 2=>c
 | 3=>d
 | _=>e
def R5(w:World)(q:Nat)(a b c d e:Int):Prop:=w.heap[q]?=some (.cells #[.int .u8 a,.int .u8 b,.int .u8 c,.int .u8 d,.int .u8 e] 173 (0,0))
theorem R5.cell{w:World}{q:Nat}{a b c d e:Int}(h:R5 w q a b c d e){k:Nat}(hk:k < 5):w.cell? ⟨q,k,none⟩=some (.int .u8 (nx a b c d e k)):=by
 rw[cell_of_row w q k _ _ _ h]
 match k,hk with
 | 0,_=>rfl
 | 1,_=>rfl
 | 2,_=>rfl
 | 3,_=>rfl
 | 4,_=>rfl
structure BeI(w:World)(g:Pl)(A B Z:Int)(b n cap q:Nat)(n0 n1 n2 n3 n4:Int)(F:Nat→Int)(wr:World):Prop where
 sp:Bs wr g A B Z (some ⟨b,0,none⟩) n cap
 row:Row wr b 0 n F
 nxt:R5 wr q n0 n1 n2 n3 n4
 only:w.grownBy wr (some g.b)
 new:w.heap.size≤b
 ne:b≠g∧b≠q
 room:n≤cap
theorem BeI.turn{w wr:World}{g:Pl}{b n cap q:Nat}{A B Z n0 n1 n2 n3 n4:Int}{F:Nat→Int}(h:BeI w g A B Z b n cap q n0 n1 n2 n3 n4 F wr)(hF:∀i,i < n→0≤F i∧F i≤4)(hn:n≤140737488355328):Turn w g A B Z n F wr:=
 ⟨⟨_,_,h.sp,h.row.lies h.row.lt h.room,fun i hi=>by have:=hF i hi; omega,hn⟩,h.only,fun b' off' _ hb' _=>.inl (by
  have:=h.sp.same hb'
  injection this with this
  injection this with this
  have:=h.new
  omega)⟩
theorem BeI.store{w wr:World}{g:Pl}{b n cap q:Nat}{A B Z n0 n1 n2 n3 n4:Int}{F:Nat→Int}(h:BeI w g A B Z b n cap q n0 n1 n2 n3 n4 F wr)(j:Nat)(z:Int):BeI w g A B Z b n cap q n0 n1 n2 n3 n4 (put F j z) (wr.setCell ⟨b,j,none⟩ (.int .u8 z)):=
 ⟨h.sp.block (heap_setCell_other _ _ _ _ (Ne.symm h.ne.1)),by have:=h.row.store j z; rwa [Nat.zero_add] at this,(heap_setCell_other _ _ _ _ (Ne.symm h.ne.2)).trans h.nxt,only_new h.only h.new j _,h.new,h.ne,h.room⟩
theorem BeI.drew{w wr:World}{g:Pl}{b n cap q:Nat}{A B Z n0 n1 n2 n3 n4:Int}{F:Nat→Int}(h:BeI w g A B Z b n cap q n0 n1 n2 n3 n4 F wr):BeI w g A B Z b n cap q n0 n1 n2 n3 n4 F wr.drew:=
 ⟨h.sp,⟨h.row.cur⟩,h.nxt,⟨h.only.os,h.only.tape,h.only.output,h.only.size,h.only.block⟩,h.new,h.ne,h.room⟩
def bec(N:Nat→Int)(L:Nat→Nat)(f:Nat→Int):Nat→Nat→Int
 | 0=>f
 | k+1=>put (bec N L f k) (L k) (N (bec N L f k (L k)).toNat)
theorem put_bd{f:Nat→Int}{n j:Nat}{z:Int}(h:∀i,i < n→0≤f i∧f i≤4)(hz:0≤z∧z≤4):∀i,i < n→0≤put f j z i∧put f j z i≤4:=by
 intro i hi
 unfold put
 split
 ·exact hz
 ·exact h i hi
theorem bec_bd{N:Nat→Int}{L:Nat→Nat}{f:Nat→Int}{n m:Nat}(hN:∀k,k < 5→0≤N k∧N k≤4)(hf:∀i,i < n→0≤f i∧f i≤4)(hL:∀i,i < m→L i < n):∀{k:Nat},k≤m→∀i,i < n→0≤bec N L f k i∧bec N L f k i≤4
 | 0,_=>hf
 | k+1,hk=>by
  have ih:=bec_bd hN hf hL (k:=k) (by omega)
  have h1:=ih (L k) (hL k (by omega))
  exact put_bd ih (hN _ (by omega))
theorem become_any(g:Pl)(A B Z:Int)(ao:Option Addr)(n cap:Nat)(f:Nat→Int)(n0 n1 n2 n3 n4:Int)(pa:Option Addr)(m mc:Nat)(L:Nat→Nat)(w:World)(hx:Bs w g A B Z ao n cap)(hs:St w w.heap.size ao n cap f)(h1:0 < n)(hf:∀i,i < n→0≤f i∧f i≤4)
  (hN:∀k,k < 5→0≤nx n0 n1 n2 n3 n4 k∧nx n0 n1 n2 n3 n4 k≤4) (hm:m≤140737488355328) (hL:∀i,i < m→L i < n) (hp:m=0∨∃pb po,pa=some ⟨pb,po,none⟩∧pb < w.heap.size∧pb≠g∧∀i,i < m→w.cell? ⟨pb,po+i,none⟩=some (.int .i64 (L i))) :
  Calls Tryz.prog 134 #[.pointer (some ⟨g.b,g.o,none⟩),.agg #[.int .u8 n0,.int .u8 n1,.int .u8 n2,.int .u8 n3,.int .u8 n4],.slice pa m mc] w fun e w'=>(∃v,e=.returned v)∧Turn w g A B Z n (bec (nx n0 n1 n2 n3 n4) L f m) w':=by
 obtain⟨W,hW,hbW,hsW,hqW⟩:∃W,W=w.alloc (.cells #[.int .u8 n0,.int .u8 n1,.int .u8 n2,.int .u8 n3,.int .u8 n4] 173)∧Below w.heap.size w W∧W.heap.size=w.heap.size+1∧R5 W w.heap.size n0 n1 n2 n3 n4:=⟨_,rfl,(Below.refl _ _).alloc (Nat.le_refl _) _,by simp,heap_alloc_new _ _⟩
 have hgl:=hx.lt
 have yW:=hx.below hbW hgl
 have k3:=hx.c3
 have HCl:=Lib.hid (clone_any ao n cap f W (hs.later hbW) h1)
 have hnr:=hs.room
 have HP:=Lib.hid hp
 have HL:=Lib.hid hL
 have HB:=Lib.hid (fun k (hk:k≤m)=>bec_bd hN hf hL hk)
 clear hs hp hL hN hf
 go_enter Tryz.func134,Tryz.ntmps134
 go_wp2_with fail
 rw[←hW]
 clear hW
 refine HCl.out.mono ?_
 rintro _ w1 ⟨b,cap',rfl,hb,hc,hrow,hb1⟩
 dsimp only
 have y1:=yW.below hb1 (by omega)
 have yf:=y1.fr (g.o+3)
 have k3':=y1.c3
 have HI:Hid (BeI w g A B Z b n cap' w.heap.size n0 n1 n2 n3 n4 (bec (nx n0 n1 n2 n3 n4) L f 0) (w1.setCell ⟨g.b,g.o+3,none⟩ (.slice (some ⟨b,0,none⟩) n cap'))):=Lib.hid
  ⟨y1.s3 _ _ _,hrow.block (heap_setCell_other _ _ _ _ (show b≠g by omega)),(heap_setCell_other _ _ _ _ (show w.heap.size≠g by omega)).trans ((hb1.block _ (by omega)).trans hqW),only_store (oB (oB (World.grownBy.refl _ _) hbW) hb1) (g.o+3) _,by omega,⟨by omega,by omega⟩,hc⟩
 clear hrow hb1 hbW hqW yW k3 hx HCl
 go_wp2_with fail
 generalize w1.setCell ⟨g.b,g.o+3,none⟩ (.slice (some ⟨b,0,none⟩) n cap')=w2 at HI ⊢
 go_loopw [18] (fun i wr=>∃j:Nat,j≤m∧i=.int .i64 j∧Hid (BeI w g A B Z b n cap' w.heap.size n0 n1 n2 n3 n4 (bec (nx n0 n1 n2 n3 n4) L f j) wr)) (fun i _=>m - (intOf i).toNat)
 case atStart=>exact⟨0,by omega,rfl,HI⟩
 case round=>
  clear HI
  obtain⟨j,hj,rfl,hI⟩:=hrel
  by_cases hlt:j < m
  ·obtain⟨pb,po,rfl,hpb,hpg,hpc⟩:=HP.out.resolve_left (by omega)
   have hcj:=(World.cell?_of_block (a:=⟨pb,po+j,none⟩) (hI.out.only.block pb hpb (by simpa using hpg))).trans (hpc j hlt)
   have hli:=HL.out j hlt
   have hj0:(0:Int)≤(j:Int):=by omega
   have hjm:(j:Int) < (m:Int):=by omega
   have hbd:=HB.out j (by omega) (L j) hli
   have c3:=hI.out.sp.c3
   have cb:=hI.out.row.cell hli
   have cf:=hI.out.row.free (L j)
   obtain⟨v,hv⟩:∃v:Nat,bec (nx n0 n1 n2 n3 n4) L f j (L j)=v:=⟨_,(Int.toNat_of_nonneg hbd.1).symm⟩
   have hv5:v < 5:=by omega
   have cn:=hI.out.nxt.cell hv5
   have HN:=Lib.hid (hI.out.store (L j) (nx n0 n1 n2 n3 n4 v))
   have HN2:Hid (BeI w g A B Z b n cap' w.heap.size n0 n1 n2 n3 n4 (put (bec (nx n0 n1 n2 n3 n4) L f j) (L j) (nx n0 n1 n2 n3 n4 v)) (wr.drew.setCell ⟨b,L j,none⟩ (.int .u8 (nx n0 n1 n2 n3 n4 v)))):=Lib.hid (hI.out.drew.store (L j) (nx n0 n1 n2 n3 n4 v))
   have HQ:Hid (bec (nx n0 n1 n2 n3 n4) L f (j+1)=put (bec (nx n0 n1 n2 n3 n4) L f j) (L j) (nx n0 n1 n2 n3 n4 v)):=Lib.hid (by rw[bec,hv,Int.toNat_natCast])
   rw[hv,Nat.zero_add] at cb
   clear hbd hv hI hpc
   generalize nx n0 n1 n2 n3 n4 v=u at *
   generalize L j=i at *
   have hi0:(0:Int)≤(i:Int):=by omega
   have hin:(i:Int) < (n:Int):=by omega
   have hv0:(0:Int)≤(v:Int):=by omega
   have hv6:(v:Int) < 5:=by omega
   clear hli hv5
   go_wp2_with fail
   go_region
   go_wp2_with fail
   go_roundw
   case rel=>exact⟨j+1,by omega,by go_num,by rw[HQ.out]; exact HN2⟩
   case measure=>simp[intOf]; omega
  ·obtain rfl:j=m:=by omega
   go_wp2_with fail
   go_end0
   exact⟨⟨_,rfl⟩,hI.out.turn (HB.out j (Nat.le_refl _)) hnr⟩
def alT(N:Nat→Int)(f:Nat→Int)(i:Nat):Int:=N (f i).toNat
end Sp
namespace Sp
open Go.RowKit Dk Eqb Byt
theorem Turn.same{w w':World}{g:Pl}{n cap:Nat}{A B Z:Int}{ao:Option Addr}{f:Nat→Int}(hx:Bs w g A B Z ao n cap)(hs:St w w.heap.size ao n cap f)(hb:Below w.heap.size w w'):Turn w g A B Z n f w':=
 ⟨⟨ao,cap,hx.below hb hx.lt,hs.later hb⟩,oB (World.grownBy.refl _ _) hb,fun _ _ cap' hb' hg=>.inr ⟨cap',hb'.block (hb.block g hg).symm⟩⟩
theorem Turn.after{w w1 w':World}{g:Pl}{n:Nat}{A B Z:Int}{f:Nat→Int}(hb:Below w.heap.size w w1)(h:Turn w1 g A B Z n f w'):Turn w g A B Z n f w':=
 ⟨h.sp,⟨h.only.os.trans hb.os,h.only.tape.trans hb.tape,h.only.output.trans hb.output,Nat.le_trans hb.size h.only.size,fun k hk hr=>(h.only.block k (Nat.lt_of_lt_of_le hk hb.size) hr).trans (hb.block k hk)⟩,fun b off cap hb' hg=>by
  rcases h.loc b off cap hb' (Nat.lt_of_lt_of_le hg hb.size) with h1 | ⟨cap',h1⟩
  ·exact .inl (Nat.le_trans hb.size h1)
  ·exact .inr ⟨cap',h1.block (hb.block g hg).symm⟩⟩
theorem Turn.drop{w w1 w':World}{g:Pl}{n:Nat}{A B Z:Int}{f:Nat→Int}(h:Turn w g A B Z n f w1)(hb:Below w1.heap.size w1 w'):Turn w g A B Z n f w':=by
 obtain⟨⟨ao,cap,h1,h2⟩,h3,h4⟩:=h
 exact⟨⟨ao,cap,h1.below hb h1.lt,h2.later hb⟩,oB h3 hb,fun b off cap' hb' hg=>h4 b off cap' (hb'.block (hb.block g h1.lt).symm) hg⟩
theorem bd_of{A B Z:Int}{n:Nat}{f:Nat→Int}(h:formB A B Z n f=true)(hf:∀i,i < n→0≤f i∧f i < 256):∀i,i < n→0≤f i∧f i≤4:=fun i hi=>⟨(hf i hi).1,le_of h i hi⟩
theorem pos_of{A B Z:Int}{n:Nat}{f:Nat→Int}(h:formB A B Z n f=true):0 < n:=by have:=n_of h; have:=(ap_of h).z1; omega
theorem nx_bd{a b c d e:Int}(h:(0≤a∧a≤4)∧(0≤b∧b≤4)∧(0≤c∧c≤4)∧(0≤d∧d≤4)∧0≤e∧e≤4):∀k,k < 5→0≤nx a b c d e k∧nx a b c d e k≤4:=by
 intro k hk
 match k,hk with
 | 0,_=>exact h.1
 | 1,_=>exact h.2.1
 | 2,_=>exact h.2.2.1
 | 3,_=>exact h.2.2.2.1
 | 4,_=>exact h.2.2.2.2
end Sp
namespace Sp
open Go.RowKit Dk Eqb Byt
theorem ff_bd{A:Int}{F:Nat→Int}{z:Nat}(hA:0≤A):-1≤ff A F z∧ff A F z < A+z:=by
 have:=fz_lt F z
 unfold ff
 split <;> omega
theorem ff_at{A:Int}{F:Nat→Int}{z:Nat}(_hA:0≤A)(h:ff A F z≠-1):∃i:Nat,i < z∧ff A F z=A+i∧F i=0:=by
 unfold ff at h ⊢
 by_cases e:fz F z < 0
 ·rw[if_pos e] at h; exact absurd rfl h
 ·rw[if_neg e] at h ⊢
  have:=fz_lt F z
  obtain⟨i,hi⟩:∃i:Nat,fz F z=i:=⟨(fz F z).toNat,by omega⟩
  exact⟨i,by omega,by rw[hi],fz_at hi⟩
def fA(A:Int)(z:Nat)(f:Nat→Int):Int:=ff A f z
def fB(B:Int)(z:Nat)(f:Nat→Int):Int:=ff B (fun i=>f (z+i)) z
def tp0(A B:Int)(z:Nat)(f:Nat→Int)(c:Nat):Int:=if c=1 then (if fA A z f = -1 then fB B z f else fA A z f) else fA A z f
def tp1(B:Int)(z:Nat)(f:Nat→Int)(c:Nat):Int:=if c=1 then -1 else fB B z f
def tpP(A B:Int)(z:Nat)(f:Nat→Int)(c i:Nat):Int:=if i=0 then tp0 A B z f c else tp1 B z f c
def tpL(A B:Int)(z:Nat)(f:Nat→Int)(c i:Nat):Nat:=(plI A B z (tpP A B z f c i)).toNat
def tpOk(A B:Int)(z:Nat)(f:Nat→Int)(c:Nat):Bool:=!(tp0 A B z f c == -1) && (c == 1 || !(tp1 B z f c == -1))
def tkN:Nat→Int:=nx 2 0 0 0 0
def tkB(A B Z:Int)(n:Nat)(f:Nat→Int)(x:Int):Bool:=formB A B Z n f && (x == 1 || x == 2)
def tkE(A B Z:Int)(n:Nat)(f:Nat→Int)(x:Int):Int:=if tkB A B Z n f x then (if tpOk A B Z.toNat f x.toNat then 0 else 9) else 1
def tkp(A B Z:Int)(n:Nat)(f:Nat→Int)(x:Int):Int:=if tkB A B Z n f x && tpOk A B Z.toNat f x.toNat then tp0 A B Z.toNat f x.toNat else 0
def tkq(A B Z:Int)(n:Nat)(f:Nat→Int)(x:Int):Int:=if tkB A B Z n f x && tpOk A B Z.toNat f x.toNat then tp1 B Z.toNat f x.toNat else 0
def tkF(A B Z:Int)(n:Nat)(f:Nat→Int)(x:Int):Nat→Int:=if tkB A B Z n f x && tpOk A B Z.toNat f x.toNat then bec tkN (tpL A B Z.toNat f x.toNat) f x.toNat else f
section
variable {A B:Int}{z n c:Nat}{f:Nat→Int}
theorem fA_pl(h:Ap A B z)(h1:fA A z f≠-1):∃i:Nat,i < z∧fA A z f=A+i∧plI A B z (fA A z f)=i∧f i=0:=by
 obtain⟨i,hi,e,e0⟩:=ff_at h.a0 h1
 have e':fA A z f=A+i:=e
 exact⟨i,hi,e',by rw[e',plI_a (by omega)]; omega,e0⟩
theorem fB_pl(h:Ap A B z)(h1:fB B z f≠-1):∃i:Nat,z≤i∧i < 2 * z∧fB B z f=B+(i - z)∧plI A B z (fB B z f)=i∧f i=0:=by
 obtain⟨i,hi,e,e0⟩:=ff_at (by have:=h.a0; have:=h.ab; have:=h.z1; omega) h1
 have e':fB B z f=B+i:=e
 have hab:=h.ab
 exact⟨z+i,by omega,by omega,by omega,by rw[e',plI_b (by omega) (by omega)]; omega,e0⟩
theorem fA_bd(h:Ap A B z):-1≤fA A z f∧fA A z f≤4096:=by
 have h1:-1≤fA A z f∧fA A z f < A+z:=ff_bd h.a0
 have:=h.ab; have:=h.b1; omega
theorem fB_bd(h:Ap A B z):-1≤fB B z f∧fB B z f≤4096:=by
 have h1:-1≤fB B z f∧fB B z f < B+z:=ff_bd (by have:=h.a0; have:=h.ab; have:=h.z1; omega)
 have:=h.b1; omega
theorem tpP_bd(h:Ap A B z)(i:Nat):-1≤tpP A B z f c i∧tpP A B z f c i≤4096:=by
 have h1:=fA_bd (f:=f) h
 have h2:=fB_bd (f:=f) h
 unfold tpP tp0 tp1
 split
 ·split
  ·split <;> omega
  ·omega
 ·split <;> omega
theorem tpL_at(h:Ap A B z)(hc:c=1∨c=2){i:Nat}(hi:i < c)(hp:tpP A B z f c i≠-1):plI A B z (tpP A B z f c i)=tpL A B z f c i∧tpL A B z f c i < 2 * z∧f (tpL A B z f c i)=0∧(c=2→(i=0→tpL A B z f c i < z)∧(i=1→z≤tpL A B z f c i)):=by
 have key:∀x:Int,tpP A B z f c i=x→(∃k:Nat,k < 2 * z∧plI A B z x=k∧f k=0∧(c=2→(i=0→k < z)∧(i=1→z≤k)))→plI A B z (tpP A B z f c i)=tpL A B z f c i∧tpL A B z f c i < 2 * z∧f (tpL A B z f c i)=0∧(c=2→(i=0→tpL A B z f c i < z)∧(i=1→z≤tpL A B z f c i)):=by
  rintro x hx ⟨k,hk,hpl,h0,hz⟩
  have e:tpL A B z f c i=k:=by unfold tpL; rw[hx,hpl,Int.toNat_natCast]
  rw[e,hx,hpl]
  exact⟨rfl,hk,h0,hz⟩
 have useA:∀(_:fA A z f≠-1),(i=1→c≠2)→∃k:Nat,k < 2 * z∧plI A B z (fA A z f)=k∧f k=0∧(c=2→(i=0→k < z)∧(i=1→z≤k)):=by
  intro h1 h2
  obtain⟨k,hk,_,hpl,h0⟩:=fA_pl h h1
  exact⟨k,by omega,hpl,h0,fun hc2=>⟨fun _=>hk,fun h3=>absurd hc2 (h2 h3)⟩⟩
 have useB:∀(_:fB B z f≠-1),(i=0→c≠2)→∃k:Nat,k < 2 * z∧plI A B z (fB B z f)=k∧f k=0∧(c=2→(i=0→k < z)∧(i=1→z≤k)):=by
  intro h1 h2
  obtain⟨k,hk1,hk2,_,hpl,h0⟩:=fB_pl h h1
  exact⟨k,hk2,hpl,h0,fun hc2=>⟨fun h3=>absurd hc2 (h2 h3),fun _=>hk1⟩⟩
 rcases hc with rfl | rfl
 ·obtain rfl:i=0:=by omega
  by_cases e:fA A z f = -1
  ·have hx:tpP A B z f 1 0=fB B z f:=by unfold tpP tp0; rw[if_pos rfl,if_pos rfl,if_pos e]
   rw[hx] at hp
   exact key _ hx (useB hp (by omega))
  ·have hx:tpP A B z f 1 0=fA A z f:=by unfold tpP tp0; rw[if_pos rfl,if_pos rfl,if_neg e]
   exact key _ hx (useA e (by omega))
 ·obtain rfl | rfl:i=0∨i=1:=by omega
  ·have hx:tpP A B z f 2 0=fA A z f:=by unfold tpP tp0; rw[if_pos rfl,if_neg (by omega)]
   rw[hx] at hp
   exact key _ hx (useA hp (by omega))
  ·have hx:tpP A B z f 2 1=fB B z f:=by unfold tpP tp1; rw[if_neg (by omega),if_neg (by omega)]
   rw[hx] at hp
   exact key _ hx (useB hp (by omega))
theorem tpOk_yes(h:tpOk A B z f c=true)(_hc:c=1∨c=2):∀i,i < c→tpP A B z f c i≠-1:=by
 simp[tpOk] at h
 intro i hi
 unfold tpP
 split
 ·exact h.1
 ·rcases h.2 with h2 | h2
  ·omega
  ·exact h2
theorem tpOk_no{i:Nat}(hi:i < c)(hc:c=1∨c=2)(h:tpP A B z f c i = -1):tpOk A B z f c=false:=by
 cases e:tpOk A B z f c with
 | false=>rfl
 | true=>exact absurd h (tpOk_yes e hc i hi)
theorem tpOk_all(hc:c=1∨c=2)(h:∀i,i < c→tpP A B z f c i≠-1):tpOk A B z f c=true:=by
 have h0:=h 0 (by omega)
 unfold tpP at h0
 rw[if_pos rfl] at h0
 rcases hc with rfl | rfl
 ·simp[tpOk,h0]
 ·have h1:=h 1 (by omega)
  unfold tpP at h1
  rw[if_neg (by omega)] at h1
  simp[tpOk,h0,h1]
theorem tk_bec1(h:Ap A B z)(h0:tpP A B z f 1 0≠-1):bec tkN (tpL A B z f 1) f 1=put f (tpL A B z f 1 0) 2:=by
 have:=(tpL_at h (.inl rfl) (by omega) h0).2.2.1
 rw[bec,bec,this]
 rfl
theorem tk_bec2(h:Ap A B z)(h0:tpP A B z f 2 0≠-1)(h1:tpP A B z f 2 1≠-1):bec tkN (tpL A B z f 2) f 2=put (put f (tpL A B z f 2 0) 2) (tpL A B z f 2 1) 2:=by
 obtain⟨_,_,e0,l0⟩:=tpL_at h (.inr rfl) (by omega) h0
 obtain⟨_,_,e1,l1⟩:=tpL_at h (.inr rfl) (by omega) h1
 have hne:tpL A B z f 2 1≠tpL A B z f 2 0:=by
  have:=(l0 rfl).1 rfl
  have:=(l1 rfl).2 rfl
  omega
 have hx:put f (tpL A B z f 2 0) 2 (tpL A B z f 2 1)=0:=by unfold put; rw[if_neg hne,e1]
 rw[bec,bec,bec,e0,show tkN (0:Int).toNat=2 from rfl,hx]
 rfl
end
def ints(xs:List Int):List Value:=xs.map (Value.int .i64)
theorem ints_append(xs ys:List Int):ints (xs ++ ys)=ints xs ++ ints ys:=by simp[ints]
theorem ints_get{xs:List Int}{i:Nat}(h:i < xs.length):(ints xs)[i]?=some (.int .i64 (xs.getD i 0)):=by
 simp[ints,List.getD_eq_getElem?_getD,h]
theorem int_info:(Tryz.prog.info? 3).map (fun i=>(i.zero,i.size,i.bytes))=some (some (.int .i64 0),1,8):=by kernel_rfl
theorem int_slice:Tryz.prog.underlying 167=some (.slice 3):=by kernel_rfl
def OwnI(w:World)(base:Nat)(v:Value)(xs:List Int):Prop:=w.ownsRow base 3 1 v xs.length (ints xs)
theorem OwnI.nil(w:World)(base:Nat):OwnI w base (.slice none 0 0) []:=World.ownsRow_nil _ _ _ _
theorem OwnI.slice{w:World}{base:Nat}{v:Value}{xs:List Int}(h:OwnI w base v xs):(v=.slice none 0 0∧xs=[])∨∃b cap,v=.slice (some ⟨b,0,none⟩) xs.length cap∧base≤b∧b < w.heap.size∧∀i,i < xs.length→w.cell? ⟨b,i,none⟩=some (.int .i64 (xs.getD i 0)):=by
 have hlt:=World.ownsRow.lt h
 rcases h.2 with ⟨hv,hn⟩ | ⟨g,cap,cur,hv,hb,hg,_,_,_,ht⟩
 ·exact .inl ⟨hv,List.eq_nil_of_length_eq_zero hn⟩
 ·refine .inr ⟨g,cap,hv,hb,(Array.getElem?_eq_some_iff.1 hg).1,fun i hi=>?_⟩
  rw[cell_of_row w g i cur _ _ hg]
  have e1:=ints_get (xs:=xs) hi
  rw[←ht] at e1
  simpa[List.getElem?_take,hi] using e1
theorem OwnI.below{w w':World}{base:Nat}{v:Value}{xs:List Int}(h:OwnI w base v xs)(hb:Below w.heap.size w w'):OwnI w' base v xs:=by
 refine⟨h.1,?_⟩
 rcases h.2 with h2 | ⟨g,cap,cur,hv,hb',hg,h5⟩
 ·exact .inl h2
 ·exact .inr ⟨g,cap,cur,hv,hb',(hb.block g (Array.getElem?_eq_some_iff.1 hg).1).trans hg,h5⟩
theorem append_i1{w:World}{ops:Array Oper}{rest:List Oper}{o:Oper}{a:Act}{Q:Exit→Act→World→Prop}(hgd:o.guard=none)(s x:Operand)
  (ho:o.op=.call { callee:=.builtin .append,args:=#[s,x],argTypes:=#[167,167] }) (base:Nat) (v:Value) (ys:List Int) (hs:a.eval s=v) (hown:OwnI w base v ys)
  (b c:Nat) (k:Int) (hx:a.eval x=.slice (some ⟨b,0,none⟩) 1 c) (hc:w.cell? ⟨b,0,none⟩=some (.int .i64 k)) (hlen:ys.length≤1099511627776) (hbase:base≤w.heap.size)
  (h:∀v' w',OwnI w' base v' (ys ++ [k])→w.grownBy w' v.ownBlock→wpList Tryz.prog ops Q rest (a.put o.dst v') w'):wpList Tryz.prog ops Q (o :: rest) a w:=by
 obtain⟨i0,hi,hz0,hz1,hz2⟩:=info_parts int_info
 refine wpList_append_own w hgd s x 167 ho base 3 i0 (.int .i64 0) 1 8 int_slice hi hz0 hz1 hz2 rfl (by decide) v ys.length (ints ys) hs hown ⟨b,0,none⟩ 1 c [.int .i64 k] hx (by simp) ?_ (by intro u hu; simp at hu; subst hu; rfl) (by unfold maxLen; omega) (by omega) hbase ?_
 ·intro j u hu
  obtain rfl:j=0:=by
   have:=(List.getElem?_eq_some_iff.1 hu).1
   simpa using this
  simp at hu
  subst hu
  simpa[Addr.add] using hc
 ·intro v' w' h1 h2 _
  refine h v' w' ?_ h2
  unfold OwnI
  rw[List.length_append,ints_append]
  exact h1
end Sp
end Go.Proofs.YteaocagepfgfnaaGreatDoor
