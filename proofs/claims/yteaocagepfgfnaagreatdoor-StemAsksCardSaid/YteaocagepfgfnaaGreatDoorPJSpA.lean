import Derived.Test.YteaocagepfgfnaaGreatDoorPDkBase
import Derived.Test.YteaocagepfgfnaaGreatDoorPJWd
import Derived.WalkSmall
import Derived.Laws.Small
import Derived.Test.YteaocagepfgfnaaGreatDoorPDkMem
import Derived.BigQuiet
set_option maxRecDepth 100000
set_option maxHeartbeats 8000000
namespace Go.Proofs.YteaocagepfgfnaaGreatDoor
namespace Sp
open Go.RowKit Dk Eqb Byt
def apartB(A B Z:Int):Bool:=decide (1≤Z∧Z≤2000∧0≤A∧A+Z≤B∧B+Z≤4096)
theorem apartB_yes{A B Z:Int}(h:1≤Z∧Z≤2000∧0≤A∧A+Z≤B∧B+Z≤4096):apartB A B Z=true:=decide_eq_true h
theorem apartB_no{A B Z:Int}(h:¬ (1≤Z∧Z≤2000∧0≤A∧A+Z≤B∧B+Z≤4096)):apartB A B Z=false:=decide_eq_false h
theorem apartB_iff{A B Z:Int}:apartB A B Z=true↔1≤Z∧Z≤2000∧0≤A∧A+Z≤B∧B+Z≤4096:=by simp[apartB]
def i64(z:Int):Prop:=-9223372036854775808≤z∧z≤9223372036854775807
def Bq(w:World)(g:Nat)(A B Z:Int)(ao:Option Addr)(n cap:Nat):Prop:=w.heap[g]?=some (.cells #[.int .i64 A,.int .i64 B,.int .i64 Z,.slice ao n cap] 41 (0,0))
section
variable {w w':World}{g:Nat}{A B Z:Int}{ao:Option Addr}{n cap:Nat}
theorem Bq.c0(h:Bq w g A B Z ao n cap):w.cell? ⟨g,0,none⟩=some (.int .i64 A):=by rw[cell_of_row w g 0 _ _ _ h]; rfl
theorem Bq.c1(h:Bq w g A B Z ao n cap):w.cell? ⟨g,1,none⟩=some (.int .i64 B):=by rw[cell_of_row w g 1 _ _ _ h]; rfl
theorem Bq.c2(h:Bq w g A B Z ao n cap):w.cell? ⟨g,2,none⟩=some (.int .i64 Z):=by rw[cell_of_row w g 2 _ _ _ h]; rfl
theorem Bq.c3(h:Bq w g A B Z ao n cap):w.cell? ⟨g,3,none⟩=some (.slice ao n cap):=by rw[cell_of_row w g 3 _ _ _ h]; rfl
theorem Bq.fr(h:Bq w g A B Z ao n cap)(j:Nat):w.frozen? ⟨g,j,none⟩=false:=frozen_of_row w g j _ _ h
theorem Bq.lt(h:Bq w g A B Z ao n cap):g < w.heap.size:=(Array.getElem?_eq_some_iff.1 h).1
theorem Bq.block(h:Bq w g A B Z ao n cap)(hb:w'.heap[g]?=w.heap[g]?):Bq w' g A B Z ao n cap:=hb.trans h
theorem Bq.below(h:Bq w g A B Z ao n cap){K:Nat}(hb:Below K w w')(hg:g < K):Bq w' g A B Z ao n cap:=h.block (hb.block g hg)
theorem Bq.s3(h:Bq w g A B Z ao n cap)(ao':Option Addr)(n' cap':Nat):Bq (w.setCell ⟨g,3,none⟩ (.slice ao' n' cap')) g A B Z ao' n' cap':=by unfold Bq; rw[heap_setCell_same w g 3 _ _ _ h]; rfl
theorem box_sp(w:World)(A B Z:Int)(ao:Option Addr)(n cap:Nat):∃W,W=w.alloc (.cells #[.int .i64 A,.int .i64 B,.int .i64 Z,.slice ao n cap] 41)∧Below w.heap.size w W∧W.heap.size=w.heap.size+1∧Bq W w.heap.size A B Z ao n cap:=
 ⟨_,rfl,(Below.refl _ _).alloc (Nat.le_refl _) _,by simp,heap_alloc_new _ _⟩
end
def Bs(w:World)(g:Pl)(A B Z:Int)(ao:Option Addr)(n cap:Nat):Prop:=g.At w [.int .i64 A,.int .i64 B,.int .i64 Z,.slice ao n cap]∧g.NoB
section
variable {w w':World}{g:Pl}{A B Z:Int}{ao:Option Addr}{n cap:Nat}
theorem Bs.c0(h:Bs w g A B Z ao n cap):w.cell? ⟨g.b,g.o,none⟩=some (.int .i64 A):=Pl.At.cell (j:=0) h.1 (by simp)
theorem Bs.c1(h:Bs w g A B Z ao n cap):w.cell? ⟨g.b,g.o+1,none⟩=some (.int .i64 B):=Pl.At.cell h.1 (by simp)
theorem Bs.c2(h:Bs w g A B Z ao n cap):w.cell? ⟨g.b,g.o+2,none⟩=some (.int .i64 Z):=Pl.At.cell h.1 (by simp)
theorem Bs.c3(h:Bs w g A B Z ao n cap):w.cell? ⟨g.b,g.o+3,none⟩=some (.slice ao n cap):=Pl.At.cell h.1 (by simp)
theorem Bs.fr(h:Bs w g A B Z ao n cap)(j:Nat):w.frozen? ⟨g.b,j,none⟩=false:=Pl.At.fr h.1 j
theorem Bs.lt(h:Bs w g A B Z ao n cap):g.b < w.heap.size:=Pl.At.lt h.1
theorem Bs.block(h:Bs w g A B Z ao n cap)(hb:w'.heap[g.b]?=w.heap[g.b]?):Bs w' g A B Z ao n cap:=⟨Pl.At.block h.1 hb,h.2⟩
theorem Bs.below(h:Bs w g A B Z ao n cap){K:Nat}(hb:Below K w w')(hg:g.b < K):Bs w' g A B Z ao n cap:=h.block (hb.block g.b hg)
theorem Bs.s3(h:Bs w g A B Z ao n cap)(ao':Option Addr)(n' cap':Nat):Bs (w.setCell ⟨g.b,g.o+3,none⟩ (.slice ao' n' cap')) g A B Z ao' n' cap':=⟨Pl.At.set h.1 (by simp) _,h.2⟩
theorem Bs.noB(h:Bs w g A B Z ao n cap)(j:Nat)(z:Int):w.cell? ⟨g.b,j,none⟩≠some (.int .u8 z):=by
 rw[cell_of_row w g.b j _ _ _ h.1]
 intro e
 unfold Pl.cs at e
 have hm:=List.mem_of_getElem? (by simpa using e:(g.pre ++ ([.int .i64 A,.int .i64 B,.int .i64 Z,.slice ao n cap] ++ g.post))[j]?=some (.int .u8 z))
 simp only[List.mem_append,List.mem_cons,List.not_mem_nil,or_false] at hm
 rcases hm with hm | (hm | hm | hm | hm) | hm
 ·exact h.2 _ (by simp[hm]) z rfl
 ·cases hm
 ·cases hm
 ·cases hm
 ·cases hm
 ·exact h.2 _ (by simp[hm]) z rfl
theorem Bq.bs{g:Nat}(h:Bq w g A B Z ao n cap):Bs w (Pl.own g 41) A B Z ao n cap:=⟨h,Pl.own_noB _ _⟩
end
theorem apart_any(A B Z:Int)(ao:Option Addr)(n cap:Nat)(w:World)(hB:i64 B) :
  Calls Tryz.prog 126 #[.agg #[.int .i64 A,.int .i64 B,.int .i64 Z,.slice ao n cap]] w fun e w'=>e=.returned (.bool (apartB A B Z))∧Below w.heap.size w w':=by
 have hb:=(Below.refl w.heap.size w).alloc (Nat.le_refl _) (.cells #[.int .i64 A,.int .i64 B,.int .i64 Z,.slice ao n cap] 41)
 unfold i64 at *
 obtain⟨hB1,hB2⟩:=hB
 by_cases h1:Z < 1
 ·rw[apartB_no (by omega)]
  go_enter Tryz.func126,Tryz.ntmps126
  go_wp2_with fail
  go_ret
  exact⟨rfl,hb⟩
 by_cases h2:2000 < Z
 ·rw[apartB_no (by omega)]
  go_enter Tryz.func126,Tryz.ntmps126
  go_wp2_with fail
  go_ret
  exact⟨rfl,hb⟩
 by_cases h3:0≤A
 ·by_cases h4:Z≤B
  ·by_cases h5:A≤B - Z
   ·by_cases h6:B≤4096 - Z
    ·rw[apartB_yes (by omega)]
     go_enter Tryz.func126,Tryz.ntmps126
     go_wp2_with fail
     go_quiet (fail)
     go_wp2_with fail
     go_ret
     exact⟨rfl,below_drewN hb _⟩
    ·have h6':decide (B≤4096 - Z)=false:=decide_eq_false h6
     rw[apartB_no (by omega)]
     go_enter Tryz.func126,Tryz.ntmps126
     go_wp2_with fail
     go_quiet (fail)
     go_wp2_with fail
     go_ret
     exact⟨rfl,below_drewN hb _⟩
   ·rw[apartB_no (by omega)]
    go_enter Tryz.func126,Tryz.ntmps126
    go_wp2_with fail
    go_quiet (fail)
    go_wp2_with fail
    go_ret
    exact⟨rfl,below_drewN hb _⟩
  ·rw[apartB_no (by omega)]
   go_enter Tryz.func126,Tryz.ntmps126
   go_wp2_with fail
   go_quiet (fail)
   go_wp2_with fail
   go_ret
   exact⟨rfl,below_drewN hb _⟩
 ·rw[apartB_no (by omega)]
  go_enter Tryz.func126,Tryz.ntmps126
  go_wp2_with fail
  go_quiet (fail)
  go_wp2_with fail
  go_ret
  exact⟨rfl,below_drewN hb _⟩
def mxF(f:Nat→Int):Nat→Int
 | 0=>f 0
 | j+1=>if f (j+1) > mxF f j then f (j+1) else mxF f j
theorem mxF_le{f:Nat→Int}{k:Int}:∀{j:Nat},mxF f j≤k↔∀i,i < j+1→f i≤k
 | 0=>by
  constructor
  ·intro h i hi
   obtain rfl:i=0:=by omega
   exact h
  ·intro h; exact h 0 (by omega)
 | j+1=>by
  have ih:=@mxF_le f k j
  unfold mxF
  constructor
  ·intro h i hi
   by_cases e:i=j+1
   ·subst e; split at h <;> omega
   ·exact ih.1 (by split at h <;> omega) i (by omega)
  ·intro h
   have h1:=ih.2 fun i hi=>h i (by omega)
   have h2:=h (j+1) (by omega)
   split <;> omega
theorem max_any(ao:Option Addr)(n cap:Nat)(f:Nat→Int)(w:World)(hl:Lies w w.heap.size ao cap (tab n f))(h1:1≤n)(hn:n≤140737488355328) :
  Calls Tryz.prog 155 #[.slice ao n cap] w fun e w'=>e=.returned (.int .u8 (mxF f (n - 1)))∧w'=w:=by
 obtain⟨b,off,rfl,hb,hc⟩:=hl.cells (by intro h; have:=congrArg List.length h; simp[tab] at this; omega)
 have hcell:∀i,i < n→w.cell? ⟨b,off+i,none⟩=some (.int .u8 (f i)):=fun i hi=>by
  rw[hc i (by simpa[tab] using hi),tab_getD n f hi]
 have h0:=hcell 0 (by omega)
 rw[Nat.add_zero] at h0
 have HC:=Lib.hid hcell
 have hn0:¬ (n:Int) < 1:=by omega
 clear hc hcell hl
 go_enter Tryz.func155,Tryz.ntmps155
 go_wp2_with fail
 go_loop [3,4] (fun m i=>∃j:Nat,1≤j∧j≤n∧i=.int .i64 j∧m=.int .u8 (mxF f (j - 1))) (fun _ i=>n - (intOf i).toNat)
 case atStart=>exact⟨1,by omega,by omega,rfl,rfl⟩
 case round=>
  obtain⟨j,hj1,hj,rfl,rfl⟩:=hrel
  by_cases hlt:j < n
  ·have hcj:=HC.out j hlt
   have hj0:(0:Int)≤(j:Int):=by omega
   have hjn:(j:Int) < (n:Int):=by omega
   have HM:Hid (mxF f (j+1 - 1)=if f j > mxF f (j - 1) then f j else mxF f (j - 1)):=Lib.hid (by
    obtain⟨k,rfl⟩:∃k,j=k+1:=⟨j - 1,by omega⟩
    rfl)
   generalize mxF f (j - 1)=m at HM ⊢
   generalize f j=x at hcj HM
   obtain⟨m',hm'⟩:∃m',m'=mxF f (j+1 - 1):=⟨_,rfl⟩
   have hmx:∀w' ts t,(Builtin.max_ ts t #[.int .u8 m,.int .u8 x]).run Tryz.prog w'=.ok (.int .u8 m') w':=fun w' ts t=>by rw[hm',HM.out]; exact run_max_int2 w' ts t _ _ m x
   have HM':=Lib.hid hm'
   clear hm'
   go_wp2_with fail
   go_round
   case rel=>exact⟨j+1,by omega,by omega,by go_num,by rw[HM'.out]⟩
   case measure=>simp[intOf]; omega
  ·obtain rfl:j=n:=by omega
   go_wp2_with fail
   go_ret
   exact⟨rfl,rfl⟩
end Sp
namespace Sp
open Go.RowKit Dk Eqb Byt
def allB(n:Nat)(f:Nat→Int):Bool:=(List.range n).all fun i=>decide (f i≤4)
theorem allB_iff{n:Nat}{f:Nat→Int}:allB n f=true↔∀i,i < n→f i≤4:=by simp[allB]
def formB(A B Z:Int)(n:Nat)(f:Nat→Int):Bool:=apartB A B Z && (((n:Int) == 2 * Z) && allB n f)
theorem formB_iff{A B Z:Int}{n:Nat}{f:Nat→Int}:formB A B Z n f=true↔(1≤Z∧Z≤2000∧0≤A∧A+Z≤B∧B+Z≤4096)∧(n:Int)=2 * Z∧∀i,i < n→f i≤4:=by
 simp[formB,apartB_iff,allB_iff]
theorem bytes_tab{n:Nat}{f:Nat→Int}{w:World}{K:Nat}{ao:Option Addr}{cap:Nat}(hl:Lies w K ao cap (tab n f))(h0:0 < n):∃b off,ao=some ⟨b,off,none⟩∧b < K∧n≤cap∧∀i,i < n→w.cell? ⟨b,off+i,none⟩=some (.int .u8 (f i)):=by
 obtain⟨b,off,rfl,hb,hc⟩:=hl.cells (by intro h; have:=congrArg List.length h; simp[tab] at this; omega)
 refine⟨b,off,rfl,hb,by simpa[tab] using hl.room,fun i hi=>?_⟩
 rw[hc i (by simpa[tab] using hi),tab_getD n f hi]
theorem Formed_any(A B Z:Int)(ao:Option Addr)(n cap:Nat)(f:Nat→Int)(w:World)(hB:i64 B)(hn:n≤140737488355328)(hl:Lies w w.heap.size ao cap (tab n f)) :
  Calls Tryz.prog 128 #[.agg #[.int .i64 A,.int .i64 B,.int .i64 Z,.slice ao n cap]] w fun e w'=>e=.returned (.bool (formB A B Z n f))∧Below w.heap.size w w':=by
 have HL:=Lib.hid hl
 have HA:=Lib.hid (fun W=>apart_any A B Z ao n cap W hB)
 have hb0:=(Below.refl w.heap.size w).alloc (Nat.le_refl _) (.cells #[.int .i64 A,.int .i64 B,.int .i64 Z,.slice ao n cap] 41)
 unfold formB
 clear hl hB
 cases hp:apartB A B Z with
 | false=>
  rw[hp] at HA
  clear hp
  go_enter Tryz.func128,Tryz.ntmps128
  go_wp2_with fail
  refine(HA.out _).mono ?_
  rintro _ w1 ⟨rfl,hb1⟩
  dsimp only
  go_wp2_with fail
  go_ret
  exact⟨rfl,hb0.trans (hb1.mono (by simp))⟩
 | true=>
  rw[hp] at HA
  obtain⟨h1,h2,-⟩:=apartB_iff.1 hp
  obtain⟨W,hW,hbW,hsW,hxW⟩:=box_sp w A B Z ao n cap
  cases hq:((n:Int) == 2 * Z) with
  | false=>
   go_enter Tryz.func128,Tryz.ntmps128
   go_wp2_with fail
   rw[←hW]
   clear hW hb0
   refine(HA.out _).mono ?_
   rintro _ w1 ⟨rfl,hb1⟩
   dsimp only
   have d2:=(hxW.below hb1 (by omega)).c2
   have d3:=(hxW.below hb1 (by omega)).c3
   go_wp2_with fail
   go_ret
   exact⟨rfl,hbW.trans (hb1.mono (by omega))⟩
  | true=>
   have hlen:Hid (1≤n):=Lib.hid (by have:(n:Int)=2 * Z:=by simpa using hq
                                    omega)
   have hv:Hid (decide (mxF f (n - 1) < 5)=allB n f):=Lib.hid (by
    have h1:n - 1+1=n:=by have:=hlen.out; omega
    rw[Bool.eq_iff_iff,allB_iff,decide_eq_true_iff]
    constructor
    ·intro h i hi; exact mxF_le.1 (show mxF f (n - 1)≤4 by omega) i (by omega)
    ·intro h
     have h2:mxF f (n - 1)≤4:=mxF_le.2 fun i hi=>h i (by omega)
     omega)
   go_enter Tryz.func128,Tryz.ntmps128
   go_wp2_with fail
   rw[←hW]
   clear hW hb0
   refine(HA.out _).mono ?_
   rintro _ w1 ⟨rfl,hb1⟩
   dsimp only
   have d2:=(hxW.below hb1 (by omega)).c2
   have d3:=(hxW.below hb1 (by omega)).c3
   go_wp2_with fail
   refine(max_any ao n cap f w1 (((HL.out.below hbW).below (hb1.mono (by omega))).more (by have:=hb1.size; omega)) hlen.out hn).mono ?_
   rintro _ w2 ⟨rfl,rfl⟩
   dsimp only
   go_wp2_with fail
   go_ret
   exact⟨by rw[←hv.out]; rfl,hbW.trans (hb1.mono (by omega))⟩
theorem formB_no{A B Z:Int}{n:Nat}{f:Nat→Int}(h:¬ ((1≤Z∧Z≤2000∧0≤A∧A+Z≤B∧B+Z≤4096)∧(n:Int)=2 * Z∧∀i,i < n→f i≤4)):formB A B Z n f=false:=by
 cases e:formB A B Z n f with
 | false=>rfl
 | true=>exact absurd (formB_iff.1 e) h
theorem allB_no{n j:Nat}{f:Nat→Int}(hj:j < n)(h:4 < f j):allB n f=false:=by
 cases e:allB n f with
 | false=>rfl
 | true=>have:=allB_iff.1 e j hj; omega
theorem refFormed_any(A B Z:Int)(ao:Option Addr)(n cap:Nat)(f:Nat→Int)(w:World)(hn:n≤140737488355328)(hl:Lies w w.heap.size ao cap (tab n f)) :
  Calls Tryz.prog 33 #[.agg #[.int .i64 A,.int .i64 B,.int .i64 Z,.slice ao n cap]] w fun e w'=>e=.returned (.bool (formB A B Z n f))∧Below w.heap.size w w':=by
 have hb0:=(Below.refl w.heap.size w).alloc (Nat.le_refl _) (.cells #[.int .i64 A,.int .i64 B,.int .i64 Z,.slice ao n cap] 41)
 by_cases h0:Z < 1
 ·rw[formB_no (by omega)]
  clear hl
  go_enter Tryz.func33,Tryz.ntmps33
  go_wp2_with fail
  go_ret
  exact⟨rfl,hb0⟩
 by_cases h1:2000 < Z
 ·rw[formB_no (by omega)]
  clear hl
  go_enter Tryz.func33,Tryz.ntmps33
  go_wp2_with fail
  go_ret
  exact⟨rfl,hb0⟩
 by_cases h2:A < 0
 ·rw[formB_no (by omega)]
  clear hl
  go_enter Tryz.func33,Tryz.ntmps33
  go_wp2_with fail
  go_ret
  exact⟨rfl,hb0⟩
 by_cases h3:4096 < A
 ·rw[formB_no (by omega)]
  clear hl
  go_enter Tryz.func33,Tryz.ntmps33
  go_wp2_with fail
  go_ret
  exact⟨rfl,hb0⟩
 by_cases h4:B < A+Z
 ·rw[formB_no (by omega)]
  clear hl
  go_enter Tryz.func33,Tryz.ntmps33
  go_wp2_with fail
  go_ret
  exact⟨rfl,hb0⟩
 by_cases h5:4096 - Z < B
 ·rw[formB_no (by omega)]
  clear hl
  go_enter Tryz.func33,Tryz.ntmps33
  go_wp2_with fail
  go_ret
  exact⟨rfl,hb0⟩
 cases hq:((n:Int) == 2 * Z) with
 | false=>
  have hne:¬ (n:Int)=2 * Z:=by simpa using hq
  rw[formB_no (by omega)]
  clear hl hne
  have hq':((n:Int) != 2 * Z)=true:=by simp only[bne,hq]; rfl
  go_enter Tryz.func33,Tryz.ntmps33
  go_wp2_with fail
  go_ret
  exact⟨rfl,hb0⟩
 | true=>
  have HE:Hid ((n:Int)=2 * Z):=Lib.hid (by simpa using hq)
  have hq':((n:Int) != 2 * Z)=false:=by simp only[bne,hq]; rfl
  have HV:Hid (formB A B Z n f=allB n f):=Lib.hid (by
   unfold formB
   rw[apartB_yes (by omega),hq]; rfl)
  obtain⟨W,hW,hbW,hsW,hxW⟩:=box_sp w A B Z ao n cap
  obtain⟨b,off,rfl,hb,hnc,hc⟩:=bytes_tab hl (by have:=HE.out; omega)
  have HC:=Lib.hid (fun i hi=>(hbW.cell (p:=⟨b,off+i,none⟩) hb).trans (hc i hi))
  have d3:=hxW.c3
  clear hl hc hb0 hq
  go_enter Tryz.func33,Tryz.ntmps33
  go_wp2_with fail
  rw[←hW]
  clear hW
  go_loop [3] (fun i=>∃j:Nat,j≤n∧i=.int .i64 j∧Hid (allB j f=true)) (fun i=>n - (intOf i).toNat)
  case atStart=>exact⟨0,by omega,rfl,Lib.hid rfl⟩
  case round=>
   obtain⟨j,hj,rfl,hR⟩:=hrel
   by_cases hlt:j < n
   ·have hcj:=HC.out j hlt
    have hj0:(0:Int)≤(j:Int):=by omega
    have hjn:(j:Int) < (n:Int):=by omega
    by_cases hf:4 < f j
    ·have HN:=Lib.hid (allB_no hlt hf)
     go_wp2_with fail
     go_ret
     exact⟨by rw[HV.out,HN.out]; rfl,hbW⟩
    ·have HN:Hid (allB (j+1) f=true):=Lib.hid (allB_iff.2 fun i hi=>by
      by_cases e:i=j
      ·subst e; omega
      ·exact allB_iff.1 hR.out i (by omega))
     clear hR
     go_wp2_with fail
     go_round
     case rel=>exact⟨j+1,by omega,by go_num,HN⟩
     case measure=>simp[intOf]; omega
   ·obtain rfl:j=n:=by omega
    have hR':=Lib.hid (HV.out.trans hR.out)
    go_wp2_with fail
    go_ret
    exact⟨by rw[hR'.out]; rfl,hbW⟩
end Sp
namespace Sp
open Go.RowKit Dk Eqb Byt
def plI(A B Z at':Int):Int:=if A≤at'∧at' < A+Z then at' - A else if B≤at'∧at' < B+Z then Z+(at' - B) else -1
theorem plI_a{A B Z x:Int}(h:A≤x∧x < A+Z):plI A B Z x=x - A:=if_pos h
theorem plI_b{A B Z x:Int}(h:¬ (A≤x∧x < A+Z))(h2:B≤x∧x < B+Z):plI A B Z x=Z+(x - B):=by unfold plI; rw[if_neg h,if_pos h2]
theorem plI_no{A B Z x:Int}(h:¬ (A≤x∧x < A+Z))(h2:¬ (B≤x∧x < B+Z)):plI A B Z x = -1:=by unfold plI; rw[if_neg h,if_neg h2]
structure Ap(A B Z:Int):Prop where
 z1:1≤Z
 z2:Z≤2000
 a0:0≤A
 ab:A+Z≤B
 b1:B+Z≤4096
theorem plI_lt{A B Z x:Int}(h:Ap A B Z):plI A B Z x < 2 * Z:=by
 obtain⟨h1,h2,h3,h4,h5⟩:=h
 unfold plI
 split
 ·omega
 ·split <;> omega
def clip(x:Int):Int:=if 0≤x then x else 0
section
variable (A B:Int)(w:World)
theorem idx0:(Instr.index 38 (.agg #[.int .i64 A,.int .i64 B]) (.int .i64 0)).run Tryz.prog w=.ok (.int .i64 A) w:=by kernel_rfl
theorem idx1:(Instr.index 38 (.agg #[.int .i64 A,.int .i64 B]) (.int .i64 1)).run Tryz.prog w=.ok (.int .i64 B) w:=by kernel_rfl
end
theorem place_any(A B Z x:Int)(ao:Option Addr)(n cap:Nat)(w:World)(hx:i64 x)(ha:Ap A B Z) :
  Calls Tryz.prog 143 #[.agg #[.int .i64 A,.int .i64 B,.int .i64 Z,.slice ao n cap],.int .i64 x] w fun e w'=>e=.returned (.tuple #[.int .i64 (clip (plI A B Z x)),.bool (decide (0≤plI A B Z x))])∧Below w.heap.size w w':=by
 have hb0:=(Below.refl w.heap.size w).alloc (Nat.le_refl _) (.cells #[.int .i64 A,.int .i64 B,.int .i64 Z,.slice ao n cap] 41)
 obtain⟨z1,z2,a0,ab,b1⟩:=ha
 obtain⟨hx1,hx2⟩:=hx
 have i0:=idx0 A B
 have i1:=idx1 A B
 go_enter Tryz.func143,Tryz.ntmps143
 go_wp2_with fail
 go_loop [10] (fun i=>∃j:Nat,j≤2∧i=.int .i64 j∧Hid ((1≤j→¬ (A≤x∧x < A+Z))∧(2≤j→¬ (B≤x∧x < B+Z)))) (fun i=>2 - (intOf i).toNat)
 case atStart=>exact⟨0,by omega,rfl,Lib.hid ⟨fun h=>by omega,fun h=>by omega⟩⟩
 case round=>
  obtain⟨j,hj,rfl,hR⟩:=hrel
  obtain rfl | rfl | rfl:j=0∨j=1∨j=2:=by omega
  ·by_cases e1:A≤x
   ·by_cases e2:x - A < Z
    ·have HP:=Lib.hid (plI_a (B:=B) (Z:=Z) (show A≤x∧x < A+Z by omega))
     go_wp2_with fail
     go_ret2
     exact⟨by rw[HP.out,decide_eq_true (by omega)]; unfold clip; rw[if_pos (by omega)]; rfl,hb0⟩
    ·have HN:Hid ((1≤0+1→¬ (A≤x∧x < A+Z))∧(2≤0+1→¬ (B≤x∧x < B+Z))):=Lib.hid ⟨fun _=>by omega,fun h=>by omega⟩
     go_wp2_with fail
     go_round
     case rel=>exact⟨0+1,by omega,by go_num,HN⟩
     case measure=>simp[intOf]
   ·have HN:Hid ((1≤0+1→¬ (A≤x∧x < A+Z))∧(2≤0+1→¬ (B≤x∧x < B+Z))):=Lib.hid ⟨fun _=>by omega,fun h=>by omega⟩
    go_wp2_with fail
    go_round
    case rel=>exact⟨0+1,by omega,by go_num,HN⟩
    case measure=>simp[intOf]
  ·by_cases e1:B≤x
   ·by_cases e2:x - B < Z
    ·have HP:=Lib.hid (plI_b (hR.out.1 (by omega)) (show B≤x∧x < B+Z by omega))
     go_wp2_with fail
     go_ret2
     exact⟨by rw[HP.out,decide_eq_true (by omega)]; unfold clip; rw[if_pos (by omega),show Z+(x - B)=Z+x - B by omega]; rfl,hb0⟩
    ·have HN:Hid ((1≤1+1→¬ (A≤x∧x < A+Z))∧(2≤1+1→¬ (B≤x∧x < B+Z))):=Lib.hid ⟨fun _=>hR.out.1 (by omega),fun h=>by omega⟩
     go_wp2_with fail
     go_round
     case rel=>exact⟨1+1,by omega,by go_num,HN⟩
     case measure=>simp[intOf]
   ·have HN:Hid ((1≤1+1→¬ (A≤x∧x < A+Z))∧(2≤1+1→¬ (B≤x∧x < B+Z))):=Lib.hid ⟨fun _=>hR.out.1 (by omega),fun h=>by omega⟩
    go_wp2_with fail
    go_round
    case rel=>exact⟨1+1,by omega,by go_num,HN⟩
    case measure=>simp[intOf]
  ·have HP:=Lib.hid (plI_no (hR.out.1 (by omega)) (hR.out.2 (by omega)))
   go_wp2_with fail
   go_ret2
   exact⟨by rw[HP.out]; rfl,hb0⟩
end Sp
namespace Sp
open Go.RowKit Dk Eqb Byt
structure St(w:World)(K:Nat)(ao:Option Addr)(n cap:Nat)(f:Nat→Int):Prop where
 lies:Lies w K ao cap (tab n f)
 byte:∀i,i < n→0≤f i∧f i < 256
 room:n≤140737488355328
theorem St.below{w w':World}{K K':Nat}{ao:Option Addr}{n cap:Nat}{f:Nat→Int}(h:St w K ao n cap f)(hb:Below K' w w')(hK:K≤K'):St w' K ao n cap f:=⟨h.lies.below (hb.mono hK),h.byte,h.room⟩
theorem St.more{w:World}{K K':Nat}{ao:Option Addr}{n cap:Nat}{f:Nat→Int}(h:St w K ao n cap f)(hK:K≤K'):St w K' ao n cap f:=⟨h.lies.more hK,h.byte,h.room⟩
theorem St.later{w w':World}{ao:Option Addr}{n cap:Nat}{f:Nat→Int}(h:St w w.heap.size ao n cap f)(hb:Below w.heap.size w w'):St w' w'.heap.size ao n cap f:=(h.below hb (Nat.le_refl _)).more hb.size
theorem ap_of{A B Z:Int}{n:Nat}{f:Nat→Int}(h:formB A B Z n f=true):Ap A B Z:=by
 obtain⟨⟨h1,h2,h3,h4,h5⟩,_⟩:=formB_iff.1 h
 exact⟨h1,h2,h3,h4,h5⟩
theorem n_of{A B Z:Int}{n:Nat}{f:Nat→Int}(h:formB A B Z n f=true):(n:Int)=2 * Z:=(formB_iff.1 h).2.1
theorem le_of{A B Z:Int}{n:Nat}{f:Nat→Int}(h:formB A B Z n f=true):∀i,i < n→f i≤4:=(formB_iff.1 h).2.2
def us(x:Int):Bool:=(x == 1) || (x == 2)
def usN(f:Nat→Int):Nat→Int
 | 0=>0
 | j+1=>usN f j+if us (f j) then 1 else 0
theorem usN_bd(f:Nat→Int):∀j:Nat,0≤usN f j∧usN f j≤j
 | 0=>by simp[usN]
 | j+1=>by
  have:=usN_bd f j
  unfold usN
  split <;> omega
theorem usN_no{f:Nat→Int}{j:Nat}(h:us (f j)=false):usN f (j+1)=usN f j:=by rw[usN,h]; simp
theorem usN_yes{f:Nat→Int}{j:Nat}(h:us (f j)=true):usN f (j+1)=usN f j+1:=by rw[usN,h]; simp
def usedN(A B Z:Int)(n:Nat)(f:Nat→Int):Int:=if formB A B Z n f then usN f n else 0
theorem used_any(x:Int)(w:World):Calls Tryz.prog 132 #[.int .u8 x] w fun e w'=>e=.returned (.bool (us x))∧w=w':=by
 unfold us
 cases h1:x == 1 with
 | true=>
  go_enter Tryz.func132,Tryz.ntmps132
  go_wp2_with fail
  go_ret
  exact⟨rfl,rfl⟩
 | false=>
  go_enter Tryz.func132,Tryz.ntmps132
  go_wp2_with fail
  go_ret
  exact⟨rfl,rfl⟩
theorem refUsed_any(A B Z:Int)(ao:Option Addr)(n cap:Nat)(f:Nat→Int)(w:World)(hs:St w w.heap.size ao n cap f) :
  Calls Tryz.prog 24 #[.agg #[.int .i64 A,.int .i64 B,.int .i64 Z,.slice ao n cap]] w fun e w'=>e=.returned (.int .i64 (usedN A B Z n f))∧Below w.heap.size w w':=by
 obtain⟨W,hW,hbW,hsW,hxW⟩:=box_sp w A B Z ao n cap
 have HS:=Lib.hid (hs.later hbW)
 have HF:=Lib.hid (fun W' (hb:Below W.heap.size W W')=>refFormed_any A B Z ao n cap f W' hs.room (HS.out.later hb).lies)
 have hn:=hs.room
 unfold usedN
 clear hs
 cases hp:formB A B Z n f with
 | false=>
  rw[hp] at HF
  clear hp
  go_enter Tryz.func24,Tryz.ntmps24
  go_wp2_with fail
  rw[←hW]
  clear hW
  go_loopw [3,4] (fun m i wr=>i=.int .i64 0∧m=.int .i64 0∧wr=W) (fun _ _ _=>0)
  case atStart=>exact⟨rfl,rfl,rfl⟩
  case round=>
   obtain⟨rfl,rfl,rfl⟩:=hrel
   have d0:=hxW.c0
   have d1:=hxW.c1
   have d2:=hxW.c2
   have d3:=hxW.c3
   by_cases h0:(0:Int) < (n:Int)
   ·go_wp2_with fail
    refine(HF.out _ (Below.refl _ _)).mono ?_
    rintro _ w2 ⟨rfl,hb2⟩
    dsimp only
    go_wp2_with fail
    go_ret
    exact⟨rfl,hbW.trans (hb2.mono (by omega))⟩
   ·go_wp2_with fail
    go_ret
    exact⟨rfl,hbW⟩
 | true=>
  rw[hp] at HF
  have HN:Hid (0 < n):=Lib.hid (by have:=n_of hp; have:=(ap_of hp).z1; omega)
  obtain⟨b,off,rfl,hb,hnc,hc⟩:=bytes_tab HS.out.lies HN.out
  clear hp
  have HC:=Lib.hid hc
  clear hc
  go_enter Tryz.func24,Tryz.ntmps24
  go_wp2_with fail
  rw[←hW]
  clear hW
  go_loopw [3,4] (fun m i wr=>∃j:Nat,j≤n∧i=.int .i64 j∧m=.int .i64 (usN f j)∧Below W.heap.size W wr) (fun _ i _=>n - (intOf i).toNat)
  case atStart=>exact⟨0,by omega,rfl,rfl,Below.refl _ _⟩
  case round=>
   obtain⟨j,hj,rfl,rfl,hB⟩:=hrel
   have e0:=(hxW.below hB (by omega)).c0
   have e1:=(hxW.below hB (by omega)).c1
   have e2:=(hxW.below hB (by omega)).c2
   have e3:=(hxW.below hB (by omega)).c3
   by_cases hlt:j < n
   ·have hj0:(0:Int)≤(j:Int):=by omega
    have hjn:(j:Int) < (n:Int):=by omega
    have hcj:=HC.out j hlt
    have hbd:=usN_bd f j
    have HY:=Lib.hid (fun h=>usN_yes (f:=f) (j:=j) h)
    have HO:=Lib.hid (fun h=>usN_no (f:=f) (j:=j) h)
    have HU:Hid (∀v,v=f j→us v=((v == 1) || (v == 2))):=Lib.hid fun v _=>rfl
    generalize hv:f j=v at hcj HY HO
    have HV:=Lib.hid hv
    clear hv
    generalize usN f j=k at *
    obtain⟨hk0,hk1⟩:=hbd
    go_wp2_with fail
    refine(HF.out _ hB).mono ?_
    rintro _ w2 ⟨rfl,hb2⟩
    dsimp only
    have hB2:=hB.trans (hb2.mono hB.size)
    have f3:=(hxW.below hB2 (by omega)).c3
    have fj:=(hB2.cell (p:=⟨b,off+j,none⟩) hb).trans hcj
    clear e0 e1 e2 e3 hcj hb2 hB
    cases u1:v == 1 with
    | true=>
     have HM:=Lib.hid (HY.out (by unfold us; rw[u1]; rfl))
     clear HY HO HU
     go_wp2_with fail
     go_roundw
     case rel=>exact⟨j+1,by omega,by go_num,by rw[HM.out],hB2⟩
     case measure=>simp[intOf]; omega
    | false=>
     cases u2:v == 2 with
     | true=>
      have HM:=Lib.hid (HY.out (by unfold us; rw[u1,u2]; rfl))
      clear HY HO HU
      go_wp2_with fail
      go_roundw
      case rel=>exact⟨j+1,by omega,by go_num,by rw[HM.out],hB2⟩
      case measure=>simp[intOf]; omega
     | false=>
      have HM:=Lib.hid (HO.out (by unfold us; rw[u1,u2]; rfl))
      clear HY HO HU
      go_wp2_with fail
      go_roundw
      case rel=>exact⟨j+1,by omega,by go_num,by rw[HM.out],hB2⟩
      case measure=>simp[intOf]; omega
   ·obtain rfl:j=n:=by omega
    go_wp2_with fail
    go_ret
    exact⟨rfl,hbW.trans (hB.mono (by omega))⟩
end Sp
namespace Sp
open Go.RowKit Dk Eqb Byt
theorem region0_any(A B:Int)(z:Nat)(b off:Nat)(n cap:Nat)(w:World)(hz1:1≤z)(hz2:z≤2000)(hn:n=2 * z)(hc:n≤cap) :
  Calls Tryz.prog 166 #[.agg #[.int .i64 A,.int .i64 B,.int .i64 z,.slice (some ⟨b,off,none⟩) n cap],.int .i64 0] w fun e w'=>e=.returned (.slice (some ⟨b,off,none⟩) z cap)∧Below w.heap.size w w':=by
 have hb0:=(Below.refl w.heap.size w).alloc (Nat.le_refl _) (.cells #[.int .i64 A,.int .i64 B,.int .i64 z,.slice (some ⟨b,off,none⟩) n cap] 41)
 have h1:(z:Int)≤(cap:Int):=by omega
 have hzi:(1:Int)≤(z:Int):=by omega
 have hzj:(z:Int)≤2000:=by omega
 clear hn
 go_enter Tryz.func166,Tryz.ntmps166
 go_wp2_with fail
 go_quiet (fail)
 go_wp2_with fail
 go_ret
 exact⟨rfl,below_drewN hb0 _⟩
theorem region1_any(A B:Int)(z:Nat)(b off:Nat)(n cap:Nat)(w:World)(hz1:1≤z)(hz2:z≤2000)(hn:n=2 * z)(hc:n≤cap) :
  Calls Tryz.prog 166 #[.agg #[.int .i64 A,.int .i64 B,.int .i64 z,.slice (some ⟨b,off,none⟩) n cap],.int .i64 1] w fun e w'=>e=.returned (.slice (some ⟨b,off+z,none⟩) z (cap - z))∧Below w.heap.size w w':=by
 have hb0:=(Below.refl w.heap.size w).alloc (Nat.le_refl _) (.cells #[.int .i64 A,.int .i64 B,.int .i64 z,.slice (some ⟨b,off,none⟩) n cap] 41)
 have h1:(z:Int) < (cap:Int):=by omega
 have h1':z < cap:=by omega
 have h3:(z:Int)≤(n:Int):=by omega
 have h2:(z:Int)≤((cap - z:Nat):Int):=by omega
 have hzi:(1:Int)≤(z:Int):=by omega
 have hzj:(z:Int)≤2000:=by omega
 clear hn
 go_enter Tryz.func166,Tryz.ntmps166
 go_wp2_with fail
 go_quiet (fail)
 go_wp2_with fail
 go_ret
 exact⟨rfl,below_drewN hb0 _⟩
def zN(f:Nat→Int)(a:Nat):Nat→Int
 | 0=>0
 | k+1=>zN f a k+if f (a+k) == 0 then 1 else 0
theorem zN_bd(f:Nat→Int)(a:Nat):∀k:Nat,0≤zN f a k∧zN f a k≤k
 | 0=>by simp[zN]
 | k+1=>by
  have:=zN_bd f a k
  rw[zN]
  split <;> omega
theorem zN_no{f:Nat→Int}{a k:Nat}(h:(f (a+k) == 0)=false):zN f a (k+1)=zN f a k:=by rw[zN,h]; simp
def rm0(A B Z:Int)(n:Nat)(f:Nat→Int):Int:=if formB A B Z n f then zN f 0 Z.toNat else 0
def rm1(A B Z:Int)(n:Nat)(f:Nat→Int):Int:=if formB A B Z n f then zN f Z.toNat Z.toNat else 0
theorem zvS2(w:World):(zeroValue 38).run Tryz.prog w=.ok (.agg #[.int .i64 0,.int .i64 0]) w:=(zero_of_info (P:=Tryz.prog) (t:=38) (v:=.agg #[.int .i64 0,.int .i64 0]) (n:=2) (by kernel_rfl)).1 w
def R2(w:World)(g:Nat)(x y:Int):Prop:=w.heap[g]?=some (.cells #[.int .i64 x,.int .i64 y] 38 (0,0))
section
variable {w w':World}{g:Nat}{x y:Int}
theorem R2.c0(h:R2 w g x y):w.cell? ⟨g,0,none⟩=some (.int .i64 x):=by rw[cell_of_row w g 0 _ _ _ h]; rfl
theorem R2.c1(h:R2 w g x y):w.cell? ⟨g,1,none⟩=some (.int .i64 y):=by rw[cell_of_row w g 1 _ _ _ h]; rfl
theorem R2.fr(h:R2 w g x y)(j:Nat):w.frozen? ⟨g,j,none⟩=false:=frozen_of_row w g j _ _ h
theorem R2.lt(h:R2 w g x y):g < w.heap.size:=(Array.getElem?_eq_some_iff.1 h).1
theorem R2.block(h:R2 w g x y)(hb:w'.heap[g]?=w.heap[g]?):R2 w' g x y:=hb.trans h
theorem R2.s0(h:R2 w g x y)(z:Int):R2 (w.setCell ⟨g,0,none⟩ (.int .i64 z)) g z y:=by unfold R2; rw[heap_setCell_same w g 0 _ _ _ h]; rfl
theorem R2.s1(h:R2 w g x y)(z:Int):R2 (w.setCell ⟨g,1,none⟩ (.int .i64 z)) g x z:=by unfold R2; rw[heap_setCell_same w g 1 _ _ _ h]; rfl
theorem R2.results{tmps:Array Value}{fn:Func}{s:Nat}(hf:fn.results=#[.cell s 38])(h2:tmps.getD s undef=.pointer (some ⟨g,0,none⟩))(kV:R2 w g x y):(results fn tmps).run Tryz.prog w=.ok (.agg #[.int .i64 x,.int .i64 y]) w:=by
 have h2':tmps[s]?.getD undef=.pointer (some ⟨g,0,none⟩):=by simpa using h2
 have hv:=run_loadVar_row (P:=Tryz.prog) w g 38 38 #[.int .i64 x,.int .i64 y] (0,0) _ kV (show Tryz.prog.underlying 38=some (.array 2 3) by kernel_rfl) rfl (by kernel_rfl)
 simp[Go.results,hf,h2',asAddr,hv]
end
section
attribute [local go_sem] zvS2
end
end Sp
end Go.Proofs.YteaocagepfgfnaaGreatDoor
