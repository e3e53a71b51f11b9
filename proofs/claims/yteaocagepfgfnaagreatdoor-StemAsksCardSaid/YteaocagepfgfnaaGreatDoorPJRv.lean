import Derived.Test.YteaocagepfgfnaaGreatDoorPJRb
import Derived.Test.YteaocagepfgfnaaGreatDoorPJDk
import Derived.Test.YteaocagepfgfnaaGreatDoorPJDn
import Derived.DeepKeys
import Derived.Test.YteaocagepfgfnaaGreatDoorPJRf
import Derived.Maps.OwnSet
import Derived.Test.YteaocagepfgfnaaGreatDoorPVlC
import Derived.Test.YteaocagepfgfnaaGreatDoorPJSpB
import Derived.Test.YteaocagepfgfnaaGreatDoorPSpTk
import Derived.Test.YteaocagepfgfnaaGreatDoorPAl
set_option maxRecDepth 100000
set_option maxHeartbeats 8000000
namespace Go.Proofs.YteaocagepfgfnaaGreatDoor
namespace Rm
open Go.RowKit Dk
theorem slice_pr:Tryz.prog.underlying 35=some (.slice 110):=by kernel_rfl
theorem info_pr:(Tryz.prog.info? 110).map (fun i=>(i.zero,i.size,i.bytes))=some (some (.agg #[.int .i64 0,.int .i64 0]),2,16):=by kernel_rfl
theorem eqlnilP(w:World)(a:Option Addr)(l c:Nat):(binOp .eql 35 (.slice a l c) (.slice none 0 0)).run Tryz.prog w=.ok (.bool a.isNone) w:=by
 simp only[binOp]
 simp[run_equal_slice_nil w _ _ a l c slice_pr]
attribute [local go_sem] eqlnilP
theorem prV_length(F T:Nat→Int)(i:Nat):(prV F T i).length=2:=rfl
theorem prV_one(F T:Nat→Int)(i:Nat):∀u ∈ prV F T i,u.oneCell'=true:=by
 intro u hu
 simp only[prV,List.mem_cons,List.not_mem_nil,or_false] at hu
 rcases hu with rfl | rfl <;> rfl
theorem cloneP_any(g:Nat)(ao:Option Addr)(n cap:Nat)(F T:Nat→Int)(w:World)(hl:Lay w w.heap.size g ao n cap 2 (prV F T))(hn:n * 16≤140737488355328) :
  Calls Tryz.prog 174 #[.slice ao n cap] w fun e w'=>∃ao' cap',e=.returned (.slice ao' n cap')∧w'.ownsRow w.heap.size 110 2 (.slice ao' n cap') n (flat (prV F T) n)∧Below w.heap.size w w':=by
 cases ao with
 | none=>
  have hc:=hl.nil rfl
  have h0:n=0:=by have:=hl.room; omega
  subst h0 hc
  clear hl hn
  go_enter Tryz.func174,Tryz.ntmps174
  go_wp2_with fail
  go_ret
  exact⟨none,0,rfl,World.ownsRow_nil _ _ _ _,Below.refl _ _⟩
 | some ad=>
  obtain⟨i0,hi,hz0,hz1,hz2⟩:=info_parts info_pr
  have HL:=Lib.hid hl
  clear hl
  go_enter Tryz.func174,Tryz.ntmps174
  go_wp2_with (at_builtin; go_loud (refine append_lay rfl (.tmp 5) (.tmp 6) 35 110 i0 _ 2 16 rfl slice_pr hi hz0 hz1 hz2 rfl (by omega) w.heap.size _ [] 0 rfl (World.ownsRow_lit w #[] 0 (Nat.le_refl _) (by decide) rfl) w.heap.size g (some ad) n cap (prV F T) rfl (HL.out.keep fun b hb _=>Below.heap_alloc _ _ _ hb) (fun i _=>prV_length _ _ _) (fun i _=>prV_one _ _ _) (maxLen_ge (by omega)) (by omega) (by simp) ?_); intro v' w' hown hg)
  have hown':w'.ownsRow w.heap.size 110 2 v' n (flat (prV F T) n):=by simpa using hown
  have hb:Below w.heap.size w w':=((Below.refl _ _).alloc (Nat.le_refl _) _).grown hg (by simp) (by
   intro k hk
   injection hk with hk
   subst hk
   exact Nat.le_refl _)
  obtain⟨ao',cap',rfl⟩:∃ao' cap',v'=.slice ao' n cap':=by
   rcases hown'.2 with ⟨hv,hn0⟩ | ⟨b,cap',cur,hv,_⟩
   ·exact⟨none,0,by rw[hv,hn0]⟩
   ·exact⟨_,cap',hv⟩
  go_ret
  exact⟨ao',cap',rfl,hown',hb⟩
def rpK(F:Nat→Int)(k:Nat)(x:Int):Nat:=if 0≤findI F x k then k else k+1
def rpF(F:Nat→Int)(k:Nat)(x:Int)(i:Nat):Int:=if 0≤findI F x k then F i else if i=k then x else F i
def rpT(F T:Nat→Int)(k:Nat)(x to:Int)(i:Nat):Int:=if 0≤findI F x k then if i=(findI F x k).toNat then to else T i else if i=k then to else T i
theorem rp_found{F T:Nat→Int}{k:Nat}{x to:Int}{j:Nat}(h:findI F x k=(j:Int)):rpK F k x=k∧rpF F k x=F∧rpT F T k x to=fun i=>if i=j then to else T i:=by
 unfold rpK rpF rpT
 rw[h]
 simp
theorem rp_new{F T:Nat→Int}{k:Nat}{x to:Int}(h:findI F x k < 0):rpK F k x=k+1∧rpF F k x=(fun i=>if i=k then x else F i)∧rpT F T k x to=fun i=>if i=k then to else T i:=by
 have h':¬ 0≤findI F x k:=by omega
 refine⟨?_,?_,?_⟩
 ·unfold rpK; rw[if_neg h']
 ·funext i; unfold rpF; rw[if_neg h']
 ·funext i; unfold rpT; rw[if_neg h']
theorem flat_new(F T:Nat→Int)(k:Nat)(x to:Int):flat (prV F T) k ++ flat (fun _=>[.int .i64 x,.int .i64 to]) 1=flat (prV (fun i=>if i=k then x else F i) (fun i=>if i=k then to else T i)) (k+1):=by
 rw[flat_succ (prV (fun i=>if i=k then x else F i) (fun i=>if i=k then to else T i)) k]
 have h1:flat (prV (fun i=>if i=k then x else F i) (fun i=>if i=k then to else T i)) k=flat (prV F T) k:=flat_congr fun i hi=>by
  have e:¬ i=k:=by omega
  simp[prV,e]
 rw[h1]
 simp[flat,prV]
theorem flat_pr(F T:Nat→Int){k i:Nat}(hi:i < k * 2):(flat (prV F T) k)[i]?=some (if i % 2=0 then .int .i64 (F (i / 2)) else .int .i64 (T (i / 2))):=by
 have h0:i / 2 * 2+i % 2=i:=by omega
 by_cases e:i % 2=0
 ·rw[if_pos e]
  have:=flat_get (T:=prV F T) (k:=2) (n:=k) (i:=i / 2) (r:=0) (v:=.int .i64 (F (i / 2))) (fun _ _=>rfl) (by omega) rfl
  rwa [show i / 2 * 2+0=i by omega] at this
 ·rw[if_neg e]
  have:=flat_get (T:=prV F T) (k:=2) (n:=k) (i:=i / 2) (r:=1) (v:=.int .i64 (T (i / 2))) (fun _ _=>rfl) (by omega) rfl
  rwa [show i / 2 * 2+1=i by omega] at this
theorem flat_put(F T:Nat→Int){k j:Nat}(_hj:j < k)(to:Int):(flat (prV F T) k).set (j * 2+1) (.int .i64 to)=flat (prV F (fun i=>if i=j then to else T i)) k:=by
 have hlen:∀T',(flat (prV F T') k).length=k * 2:=fun T'=>flat_length fun _ _=>rfl
 apply List.ext_getElem?
 intro i
 by_cases hi:i < k * 2
 ·rw[flat_pr _ _ hi]
  by_cases e:i=j * 2+1
  ·subst e
   rw[List.getElem?_set_self (by rw[hlen]; exact hi),if_neg (by omega),if_pos (by omega)]
  ·rw[List.getElem?_set_ne (fun h=>e h.symm),flat_pr _ _ hi]
   by_cases e2:i % 2=0
   ·rw[if_pos e2,if_pos e2]
   ·rw[if_neg e2,if_neg e2,if_neg (by omega)]
 ·rw[List.getElem?_eq_none (by rw[List.length_set,hlen]; omega),List.getElem?_eq_none (by rw[hlen]; omega)]
theorem owns_set{w:World}{B b k cap:Nat}{F T:Nat→Int}{j:Nat}(h:w.ownsRow B 110 2 (.slice (some ⟨b,0,none⟩) k cap) k (flat (prV F T) k))(hj:j < k)(to:Int) :
  (w.setCell ⟨b,j * 2+1,none⟩ (.int .i64 to)).ownsRow B 110 2 (.slice (some ⟨b,0,none⟩) k cap) k (flat (prV F (fun i=>if i=j then to else T i)) k):=by
 refine⟨flat_length fun _ _=>rfl,?_⟩
 rcases h.2 with ⟨hv,_⟩ | ⟨g,c',cur,hv,hb,hg,hn,hm,hcs,ht⟩
 ·cases hv
 ·injection hv with h1 h2 h3
  injection h1 with h1
  injection h1 with h1
  subst h1 h3
  refine .inr ⟨b,cap,cur.setIfInBounds (j * 2+1) (.int .i64 to),rfl,hb,heap_setCell_same w b (j * 2+1) cur _ _ hg,hn,hm,by simp[hcs],?_⟩
  rw[Array.toList_setIfInBounds,List.take_set,ht,flat_put F T hj]
theorem owns_cells{w:World}{B k:Nat}{v:Value}{F T:Nat→Int}{j:Nat}(h:w.ownsRow B 110 2 v k (flat (prV F T) k))(hj:j < k) :
  ∃b cap,v=.slice (some ⟨b,0,none⟩) k cap∧B≤b∧b < w.heap.size∧w.cell? ⟨b,j * 2+1,none⟩=some (.int .i64 (T j))∧(∀i,w.frozen? ⟨b,i,none⟩=false)∧k≤cap:=by
 have hlt:=h.lt
 rcases h.2 with ⟨_,h0⟩ | ⟨b,cap,cur,hv,hb,hg,hn,hm,hcs,ht⟩
 ·omega
 ·subst hv
  refine⟨b,cap,rfl,hb,(hlt b rfl).2,?_,fun i=>frozen_of_row w b i _ _ hg,hn⟩
  rw[cell_of_row w b _ cur _ _ hg]
  have h1:=flat_pr F T (k:=k) (i:=j * 2+1) (by omega)
  rw[if_neg (by omega),show(j * 2+1) / 2=j by omega,←ht,List.getElem?_take,if_pos (by omega)] at h1
  simpa using h1
theorem results_rp{tmps:Array Value}{w:World}{B:Nat}{u:Array Value}{fn:Func}(hf:fn.results=#[.cell 6 37])(h2:tmps.getD 6 undef=.pointer (some ⟨B,0,none⟩))
  (hA:w.heap[B]?=some (.cells u 37 (0,0))) (su:u.size=2):(results fn tmps).run Tryz.prog w=.ok (.agg u) w:=by
 have h2':tmps[6]?.getD undef=.pointer (some ⟨B,0,none⟩):=by simpa using h2
 have k2:=run_loadVar_row (P:=Tryz.prog) w B 37 37 u (0,0) _ hA Tryz.underlying37 rfl (by rw[su]; kernel_rfl)
 simp[results,hf,h2',asAddr,k2]
theorem tb_one(gen:Int)(a:Option Addr)(n c:Nat):(#[.int .i64 gen,.slice a n c]:Array Value).all (·.oneCell')=true:=by simp[Value.oneCell']
theorem one_lay(w:World)(x to:Int):Lay (w.alloc (.cells #[.int .i64 x,.int .i64 to] 110)) (w.heap.size+1) (w.heap.size+1) (some ⟨w.heap.size,0,none⟩) 1 1 2 (fun _=>[.int .i64 x,.int .i64 to]):=by
 exact⟨Nat.le_refl _,(fun e=>by cases e),.inr ⟨w.heap.size,0,rfl,by omega,by omega,fun i hi j v hv=>by
  obtain rfl:i=0:=by omega
  rw[cell_of_row _ _ _ _ _ _ (heap_alloc_new w _),Nat.zero_mul,Nat.add_zero,Nat.zero_add]
  simpa using hv⟩⟩
def NewTab(w:World)(B:Nat)(gen:Int)(k:Nat)(F T:Nat→Int)(v:Value):Prop:=∃ao cap,v=.agg #[.int .i64 gen,.slice ao k cap]∧w.ownsRow B 110 2 (.slice ao k cap) k (flat (prV F T) k)
theorem replaced_any(gen:Int)(k:Nat)(F T:Nat→Int)(pa:Option Addr)(cap g:Nat)(x to:Int)(w:World)(hl:Lay w w.heap.size g pa k cap 2 (prV F T))(hk:k≤1000000)(hg0:0≤gen)(hg1:gen≤4611686018427387904) :
  Calls Tryz.prog 163 #[.agg #[.int .i64 gen,.slice pa k cap],.int .i64 x,.int .i64 to] w fun e w'=>(∃v,e=.returned v∧NewTab w' w.heap.size (gen+1) (rpK F k x) (rpF F k x) (rpT F T k x to) v)∧Below w.heap.size w w':=by
 have HL:=Lib.hid hl
 clear hl
 have hbd:=find_bd F x k
 have HFO:=Lib.hid (fun j h=>@rp_found F T k x to j h)
 have HNE:=Lib.hid (@rp_new F T k x to)
 obtain⟨i0,hi,hz0,hz1,hz2⟩:=info_parts info_pr
 go_enter Tryz.func163,Tryz.ntmps163
 go_wp2_with fail
 generalize hW:(w.alloc (.cells #[.int .i64 gen,.slice pa k cap] 37)).alloc (.cells #[.int .i64 0,.slice none 0 0] 37)=W
 have hB0:Below w.heap.size w W:=by rw[←hW]; exact((Below.refl _ _).alloc (Nat.le_refl _) _).alloc (by simp) _
 have hx0:W.heap[w.heap.size]?=some (.cells #[.int .i64 gen,.slice pa k cap] 37 (0,0)):=by rw[←hW]; exact(Below.heap_alloc _ _ _ (by simp)).trans (heap_alloc_new w _)
 have hr0:W.heap[w.heap.size+1]?=some (.cells #[.int .i64 0,.slice none 0 0] 37 (0,0)):=by
  rw[←hW]
  have:=heap_alloc_new (w.alloc (.cells #[.int .i64 gen,.slice pa k cap] 37)) (.cells #[.int .i64 0,.slice none 0 0] 37)
  rwa [World.size_alloc] at this
 have hs0:W.heap.size=w.heap.size+2:=by rw[←hW]; simp
 clear hW
 refine(cloneP_any g pa k cap F T W ((HL.out.below hB0).more (by omega)) (by omega)).mono ?_
 rintro _ w1 ⟨ao1,cap1,rfl,hO1,hb1⟩
 have hx1:=(hb1.block w.heap.size (by omega)).trans hx0
 have hr1:=(hb1.block (w.heap.size+1) (by omega)).trans hr0
 have hs1:=hb1.size
 have hB1:Below w.heap.size w w1:=hB0.trans (hb1.mono (by omega))
 have hL1:=lay_own (g:=w1.heap.size) (fun i _=>prV_length F T i) hO1 (.inr (Nat.le_refl _))
 clear hB0 hb1 hx0 hr0
 dsimp only
 go_wp2_with fail
 refine(find_any k F T ao1 cap1 w1.heap.size x w1 hL1 (by omega)).mono ?_
 rintro _ w2 ⟨rfl,hb2⟩
 have hx2:=(hb2.block w.heap.size (by omega)).trans hx1
 have hr2:=(hb2.block (w.heap.size+1) (by omega)).trans hr1
 have hs2:=hb2.size
 have hB2:=hB1.trans (hb2.mono hB1.size)
 have hO2:=owns_below hO1 hb2
 have c0:w2.cell? ⟨w.heap.size,0,none⟩=some (.int .i64 gen):=by rw[cell_of_row _ _ _ _ _ _ hx2]; rfl
 clear hx1 hr1 hb2 hO1 hL1 hB1 hx2
 generalize findI F x k=fi at hbd HFO HNE ⊢
 obtain⟨hf0,hf1,_⟩:=hbd
 dsimp only
 by_cases hf:0≤fi
 ·obtain⟨j,rfl⟩:∃j:Nat,fi=j:=⟨fi.toNat,by omega⟩
  have HR:=Lib.hid (HFO.out j rfl)
  have hj:j < k:=by omega
  obtain⟨b,cb,hv,hb1,hb2,dT,dZ,hkc⟩:=owns_cells hO2 hj
  injection hv with hv1 hv2 hv3
  subst hv1 hv3
  have hj0:(0:Int)≤(j:Int):=by omega
  have hj1:(j:Int) < (k:Int):=by omega
  have dZ1:=dZ (j * 2+1)
  have HO3:=Lib.hid (owns_set hO2 hj to)
  have hwb:w.heap.size≤b:=by omega
  have hwb1:w.heap.size+1≠b:=by omega
  have hwb0:w.heap.size≠b:=by omega
  have hB3:Below w.heap.size w (w2.setCell ⟨b,j * 2+1,none⟩ (.int .i64 to)):=hB2.setCell hwb _
  have hr3:(w2.setCell ⟨b,j * 2+1,none⟩ (.int .i64 to)).heap[w.heap.size+1]?=some (.cells #[.int .i64 0,.slice none 0 0] 37 (0,0)):=(Below.heap_setCell _ _ _ _ hwb1).trans hr2
  have c0':(w2.setCell ⟨b,j * 2+1,none⟩ (.int .i64 to)).cell? ⟨w.heap.size,0,none⟩=some (.int .i64 gen):=(World.cell?_of_block (Below.heap_setCell _ _ _ _ hwb0)).trans c0
  clear dZ hO2 hB2 hr2 HFO HNE
  go_wp2_with (refine wpList_store_row rfl 37 (.tmp 6) (.tmp 32) rfl (w.heap.size+1) #[.int .i64 (gen+1),.slice (some ⟨b,0,none⟩) k cap1] rfl rfl 37 _ hr3 (by kernel_rfl) rfl (tb_one _ _ _ _) ?_; simp only[Act.put])
  generalize w2.setCell ⟨b,j * 2+1,none⟩ (.int .i64 to)=w3 at HO3 hB3 hr3 ⊢
  have hr4:=setRow_heap w3 (w.heap.size+1) _ #[.int .i64 (gen+1),.slice (some ⟨b,0,none⟩) k cap1] 37 (0,0) hr3
  refine bodyPost_ret (results_rp rfl rfl hr4 rfl) rfl ?_
  refine⟨⟨_,rfl,some ⟨b,0,none⟩,cap1,by rw[HR.out.1],?_⟩,hB3.trans ⟨rfl,rfl,rfl,by simp,fun i hi=>setRow_other w3 _ i _ (by omega)⟩⟩
  rw[HR.out.1,HR.out.2.1,HR.out.2.2]
  have hg:w3.grownBy (w3.setRow (w.heap.size+1) #[.int .i64 (gen+1),.slice (some ⟨b,0,none⟩) k cap1]) (some (w.heap.size+1)):=⟨rfl,rfl,rfl,by simp,fun i _ hr=>setRow_other _ _ _ _ (by simpa using hr)⟩
  exact owns_mono (HO3.out.kept hg (.inr (by simp[Value.ownBlock]; omega))) (by omega)
 ·have HR:=Lib.hid (HNE.out (by omega))
  have HO:=Lib.hid hO2
  have HB:=Lib.hid hB2
  have hwl:w.heap.size+1 < w2.heap.size:=by omega
  have c0':∀o,(w2.alloc o).cell? ⟨w.heap.size,0,none⟩=some (.int .i64 gen):=fun o=>(World.cell?_alloc_lt _ _ _ (by show w.heap.size < w2.heap.size; omega)).trans c0
  have HC3:=Lib.hid (fun(w3:World) (hg:(w2.alloc (.cells #[.int .i64 x,.int .i64 to] 110)).grownBy w3 (Value.slice ao1 k cap1).ownBlock)=>show w3.cell? ⟨w.heap.size,0,none⟩=some (.int .i64 gen)∧w3.heap[w.heap.size+1]?=some (.cells #[.int .i64 0,.slice none 0 0] 37 (0,0))∧Below w.heap.size w w3 from by
   have hne:∀q,q < W.heap.size→some q≠(Value.slice ao1 k cap1).ownBlock:=fun q hq e=>by
    have:=(HO.out.lt q e.symm).1
    omega
   have e0:=hg.block w.heap.size (by simp; omega) (hne _ (by omega))
   have e1:=hg.block (w.heap.size+1) (by simp; omega) (hne _ (by omega))
   exact⟨(World.cell?_of_block (a:=⟨w.heap.size,0,none⟩) e0).trans (c0' _),e1.trans ((Below.heap_alloc _ _ _ hwl).trans hr2),(HB.out.alloc HB.out.size _).grown hg (by simp; omega) (fun q hq=>by have:=(HO.out.lt q hq).1; omega)⟩)
  clear hO2 hB2 HFO HNE c0
  go_wp2_with (first | (at_builtin; go_loud (refine append_lay rfl (.tmp 22) (.tmp 26) 35 110 i0 _ 2 16 rfl slice_pr hi hz0 hz1 hz2 rfl (by omega) W.heap.size (.slice ao1 k cap1) (flat (prV F T) k) k rfl ((owns_below HO.out ((Below.refl _ _).alloc (Nat.le_refl _) _))) (w2.heap.size+1) (w2.heap.size+1) (some ⟨w2.heap.size,0,none⟩) 1 1 (fun _=>[.int .i64 x,.int .i64 to]) rfl (one_lay w2 x to) (fun _ _=>rfl) (fun _ _=>by simp[Value.oneCell']) (maxLen_ge (by omega)) (by omega) (by simp; omega) ?_); intro v' w3 hO3 hg3; obtain⟨e0,e1,e2⟩:=HC3.out w3 hg3; obtain⟨ao3,cap3,rfl⟩:=owns_slice hO3) | (refine wpList_store_row rfl 37 (.tmp 6) (.tmp 32) rfl (w.heap.size+1) #[.int .i64 (gen+1),.slice ao3 (k+1) cap3] rfl rfl 37 _ e1 (by kernel_rfl) rfl (tb_one _ _ _ _) ?_; simp only[Act.put]))
  have hr4:=setRow_heap w3 (w.heap.size+1) _ #[.int .i64 (gen+1),.slice ao3 (k+1) cap3] 37 (0,0) e1
  refine bodyPost_ret (results_rp rfl rfl hr4 rfl) rfl ?_
  refine⟨⟨_,rfl,ao3,cap3,by rw[HR.out.1],?_⟩,e2.trans ⟨rfl,rfl,rfl,by simp,fun i hi=>setRow_other w3 _ i _ (by omega)⟩⟩
  rw[HR.out.1,HR.out.2.1,HR.out.2.2,←flat_new]
  have hg:w3.grownBy (w3.setRow (w.heap.size+1) #[.int .i64 (gen+1),.slice ao3 (k+1) cap3]) (some (w.heap.size+1)):=⟨rfl,rfl,rfl,by simp,fun i _ hr=>setRow_other _ _ _ _ (by simpa using hr)⟩
  refine owns_mono (hO3.kept hg ?_) (by omega)
  cases eo:(Value.slice ao3 (k+1) cap3).ownBlock with
  | none=>exact .inl rfl
  | some q=>exact .inr (by have:=(hO3.lt q eo).1; simp; omega)
end Rm
namespace Rm
open Go.RowKit Dk Byt Go.Maps
attribute [local go_sem] zv29
attribute [local go_sem] zc29
def spS(n:Nat)(k:Nat)(T:Nat→Int)(V:Nat→Int)(X:Dst):Nat→Dst
 | 0=>X
 | i+1=>if noneB T ((n:Int) - 20+i) k then dWr n (spS n k T V X i) ((n:Int) - 20+i) V else spS n k T V X i
def spC(n:Nat)(k:Nat)(T:Nat→Int)(V:Nat→Int)(X:Dst)(i:Nat):Int:=dWrE n (spS n k T V X i) ((n:Int) - 20+i)
def stopB(n:Nat)(k:Nat)(T:Nat→Int)(V:Nat→Int)(X:Dst)(i:Nat):Bool:=noneB T ((n:Int) - 20+i) k && decide (spC n k T V X i≠2)
def spF(n:Nat)(k:Nat)(T:Nat→Int)(V:Nat→Int)(X:Dst):Nat→Int
 | 0=>-1
 | i+1=>if 0≤spF n k T V X i then spF n k T V X i else if stopB n k T V X i then i else -1
def spTo(n:Nat)(k:Nat)(T:Nat→Int)(V:Nat→Int)(X:Dst):Int:=if 0≤spF n k T V X 20 then (n:Int) - 20+spF n k T V X 20 else 0
def spE(n:Nat)(k:Nat)(T:Nat→Int)(V:Nat→Int)(X:Dst):Int:=if 0≤spF n k T V X 20 then spC n k T V X (spF n k T V X 20).toNat else 17
def spX(n:Nat)(k:Nat)(T:Nat→Int)(V:Nat→Int)(X:Dst):Dst:=if 0≤spF n k T V X 20 then spS n k T V X ((spF n k T V X 20).toNat+1) else spS n k T V X 20
theorem spF_none{n k:Nat}{T V:Nat→Int}{X:Dst}:∀i,(∀j,j < i→stopB n k T V X j=false)→spF n k T V X i = -1
 | 0,_=>rfl
 | i+1,h=>by
  simp only[spF,spF_none i (fun j hj=>h j (by omega)),h i (by omega)]
  simp
theorem spF_at{n k:Nat}{T V:Nat→Int}{X:Dst}{i:Nat}(h:∀j,j < i→stopB n k T V X j=false)(hi:stopB n k T V X i=true):∀m,i < m→spF n k T V X m=i
 | 0,h=>by omega
 | m+1,hm=>by
  by_cases e:i=m
  ·subst e
   simp only[spF,spF_none i h,hi]
   simp
  ·simp only[spF,spF_at h hi m (by omega)]
   rw[if_pos (by omega)]
theorem sp_at{n k:Nat}{T V:Nat→Int}{X:Dst}{i:Nat}(h:∀j,j < i→stopB n k T V X j=false)(hi:stopB n k T V X i=true)(h20:i < 20):spTo n k T V X=(n:Int) - 20+i∧spE n k T V X=spC n k T V X i∧spX n k T V X=spS n k T V X (i+1):=by
 have e:=spF_at h hi 20 h20
 unfold spTo spE spX
 rw[e,if_pos (by omega),if_pos (by omega),if_pos (by omega),Int.toNat_natCast]
 exact⟨rfl,rfl,rfl⟩
theorem sp_none{n k:Nat}{T V:Nat→Int}{X:Dst}(h:∀j,j < 20→stopB n k T V X j=false):spTo n k T V X=0∧spE n k T V X=17∧spX n k T V X=spS n k T V X 20:=by
 have e:=spF_none 20 h
 unfold spTo spE spX
 rw[e,if_neg (by omega),if_neg (by omega),if_neg (by omega)]
 exact⟨rfl,rfl,rfl⟩
theorem spS_ok{n k:Nat}{T V:Nat→Int}{X:Dst}{m:Nat}(h:Ok (20+m) X):∀i,i≤20→Ok (20+m - i) (spS n k T V X i)
 | 0,_=>h
 | i+1,hi=>by
  have:=spS_ok (n:=n) (k:=k) (T:=T) (V:=V) h i (by omega)
  simp only[spS]
  split
  ·rw[show 20+m - i=(20+m - (i+1))+1 by omega] at this
   exact this.wr
  ·exact this.less (by omega)
theorem zero_unit(w:World):(zeroValue 185).run Tryz.prog w=.ok (.agg #[]) w:=(zero_of_info (P:=Tryz.prog) (t:=185) (v:=.agg #[]) (n:=0) (by kernel_rfl)).1 w
theorem spare_d{w:World}{g:Pl}{n:Nat}{X:Dst}{mr:Nat}(h:HasD w g n X)(hok:Ok (20+mr) X)(hn0:28≤n)(hn1:n≤4096)(gen:Int)(k:Nat)(F T:Nat→Int)(pa:Option Addr)(cap q:Nat)(V:Nat→Int)(hl:Lay w w.heap.size q pa k cap 2 (prV F T))(hk20:k≤20)(hF:∀i,i < k→i64 (F i)∧i64 (T i)) :
  Calls Tryz.prog 162 #[.pointer (some ⟨g.b,g.o,none⟩),.agg #[.int .i64 gen,.slice pa k cap],.agg (bl V).toArray] w fun e w'=>e=.returned (.tuple #[.int .i64 (spTo n k T V X),.int .i64 (spE n k T V X)])∧w.grownBy w' (some g.b)∧HasD w' g n (spX n k T V X):=by
 have HD:=Lib.hid h
 have HL:=Lib.hid hl
 have HFF:=Lib.hid hF
 have hgl:=h.lt
 have HOK:=Lib.hid hok
 have HAT:=Lib.hid (fun i a b c=>@sp_at n k T V X i a b c)
 have HNO:=Lib.hid (@sp_none n k T V X)
 clear h hok hl hF
 generalize spTo n k T V X=RT at HAT HNO ⊢
 generalize spE n k T V X=RE at HAT HNO ⊢
 generalize spX n k T V X=RX at HAT HNO ⊢
 have hl1:=bl_one V
 have hl2:=sB V
 have hl3:=bL V
 have und:=und29
 have hmm:=@run_makeMap Tryz.prog
 go_enter Tryz.func162,Tryz.ntmps162
 go_wp2_with fail
 generalize hW:((w.alloc (.cells #[.int .i64 gen,.slice pa k cap] 37)).alloc (.cells (bl V).toArray 47)).alloc (.map #[] 0)=W
 have hB0:Below w.heap.size w W:=by rw[←hW]; exact(((Below.refl _ _).alloc (Nat.le_refl _) _).alloc (by simp) _).alloc (by simp; omega) _
 have hv0:W.heap[w.heap.size+1]?=some (.cells (bl V).toArray 47 (0,0)):=by
  rw[←hW]
  have:=heap_alloc_new (w.alloc (.cells #[.int .i64 gen,.slice pa k cap] 37)) (.cells (bl V).toArray 47)
  rw[World.size_alloc] at this
  exact(Below.heap_alloc _ _ _ (by simp)).trans this
 have hM0:IsSet W (w.heap.size+2) T 0:=by
  rw[←hW]
  have:=IsSet.made ((w.alloc (.cells #[.int .i64 gen,.slice pa k cap] 37)).alloc (.cells (bl V).toArray 47)) T
  rwa [World.size_alloc,World.size_alloc] at this
 have hs0:W.heap.size=w.heap.size+3:=by rw[←hW]; simp
 clear hW
 have HI:Hid (Below (w.heap.size+2) W W∧IsSet W (w.heap.size+2) T 0):=Lib.hid ⟨Below.refl _ _,hM0⟩
 clear hM0
 go_loopw [20] (fun i wr=>∃j:Nat,j≤k∧i=.int .i64 j∧Hid (Below (w.heap.size+2) W wr∧IsSet wr (w.heap.size+2) T j)) (fun i _=>k - (intOf i).toNat)
 case atStart=>exact⟨0,by omega,rfl,HI⟩
 case round=>
  clear HI
  obtain⟨j,hj,rfl,hR⟩:=hrel
  obtain⟨hBr,hMr⟩:=hR.out
  have hBw:Below w.heap.size w wr:=hB0.trans (hBr.mono (by omega))
  clear hR
  by_cases hlt:j < k
  ·obtain⟨b,off,rfl,hbl,_,hrow⟩:=(HL.out.below hBw).rows.resolve_left (by omega)
   obtain⟨dF,dT⟩:=pr_cells hrow hlt
   obtain⟨_,hTj⟩:=HFF.out j hlt
   have hj0:(0:Int)≤(j:Int):=by omega
   have hjn:(j:Int) < (k:Int):=by omega
   have hj6:j≤1000000:=by omega
   have HMR:=Lib.hid hMr
   have hml:=hMr.lt
   have HBr:=Lib.hid hBr
   clear hrow hMr hBr
   have hc1:(wr.alloc (.cells #[.int .i64 (F j),.int .i64 (T j)] 110)).cell? ⟨wr.heap.size,1,none⟩=some (.int .i64 (T j)):=by rw[cell_of_row _ _ _ _ _ _ (heap_alloc_new _ _)]; rfl
   have HM2:=Lib.hid (HMR.out.below ((Below.refl _ _).alloc (Nat.le_refl _) (.cells #[.int .i64 (F j),.int .i64 (T j)] 110)))
   go_wp2_with (first
    | (refine wpList_store_row rfl 110 (.tmp 10) (.tmp 23) rfl wr.heap.size #[.int .i64 (F j),.int .i64 (T j)] rfl rfl 110 _ (heap_alloc_new wr _) (by kernel_rfl) rfl (pair_one _ _) ?_; rw[World.setRow_alloc_new]; simp only[Act.put])
    | (at_mapUpdate; refine wpList_add rfl (.tmp 24) (.tmp 26) (.tmp 27) rfl (w.heap.size+2) j T hj6 rfl HM2.out rfl rfl hTj ?_; intro w5 hN5 hg5))
   have HN:Hid (Below (w.heap.size+2) W w5∧IsSet w5 (w.heap.size+2) T (j+1)):=Lib.hid ⟨(HBr.out.trans (((Below.refl _ _).alloc (Nat.le_refl _) (.cells #[.int .i64 (F j),.int .i64 (T j)] 110)).mono (Nat.le_of_lt hml))).grown hg5 (by simp; omega) (fun q hq=>by injection hq with hq; omega),hN5⟩
   clear HM2 HMR HBr hN5 hg5 hc1 dF dT
   go_wp2_with fail
   go_roundw
   case rel=>exact⟨j+1,by omega,by go_num,HN⟩
   case measure=>simp[intOf]; omega
  ·obtain rfl:j=k:=by omega
   obtain⟨sa,sc,ca,cc,hH⟩:=HD.out.below hBw
   have c0:=hH.bx.c0
   have hvr:=(hBr.block (w.heap.size+1) (by omega)).trans hv0
   have HI:Hid (w.grownBy wr (some g.b)∧HasD wr g n (spS n j T V X 0)∧IsSet wr (w.heap.size+2) T j∧wr.heap[w.heap.size+1]?=some (.cells (bl V).toArray 47 (0,0))∧∀i,i < 0→stopB n j T V X i=false):=
    Lib.hid ⟨oB hBw,HD.out.below hBw,hMr,hvr,fun i hi=>by omega⟩
   clear hBr hMr hBw hvr hv0 hB0 hs0 hH
   go_wp2_with fail
   clear c0
   go_loopw [35] (fun u wr=>∃i:Nat,i≤20∧u=.int .i64 i∧Hid (w.grownBy wr (some g.b)∧HasD wr g n (spS n j T V X i)∧IsSet wr (w.heap.size+2) T j∧wr.heap[w.heap.size+1]?=some (.cells (bl V).toArray 47 (0,0))∧∀i',i' < i→stopB n j T V X i'=false)) (fun i _=>20 - (intOf i).toNat)
   case atStart=>exact⟨0,by omega,rfl,HI⟩
   case round=>
    clear HI
    obtain⟨i,hi,rfl,hR⟩:=hrel
    obtain⟨hG,hD,hM,hv,hz⟩:=hR.out
    have hOKi:=spS_ok (n:=n) (k:=j) (T:=T) (V:=V) HOK.out i hi
    have hHZ:=Lib.hid hz
    have HM:=Lib.hid hM
    have HDi:=Lib.hid hD
    have HGi:=Lib.hid hG
    clear hR hz hM hD hG
    by_cases hlt:i < 20
    ·have hi0:(0:Int)≤(i:Int):=by omega
     have hi1:(i:Int) < 20:=by omega
     have hn0':(28:Int)≤(n:Int):=by omega
     have hn1':(n:Int)≤4096:=by omega
     have hSS:Hid (spS n j T V X (i+1)=if noneB T ((n:Int) - 20+i) j then dWr n (spS n j T V X i) ((n:Int) - 20+i) V else spS n j T V X i):=Lib.hid rfl
     have hST:Hid (stopB n j T V X i=(noneB T ((n:Int) - 20+i) j && decide (spC n j T V X i≠2))):=Lib.hid rfl
     have hdA:Below wr.heap.size wr (wr.alloc (.cells #[] 185)):=(Below.refl _ _).alloc (Nat.le_refl _) _
     have ltv:w.heap.size+1 < wr.heap.size:=(Array.getElem?_eq_some_iff.1 hv).1
     have hvA:=(hdA.block (w.heap.size+1) ltv).trans hv
     have hrA:(wr.alloc (.cells #[] 185)).rangeAt (w.heap.size+1) 0 (bl V):=fun j v hj=>by rw[cell_of_row _ _ _ _ _ _ hvA,Nat.zero_add]; simpa using hj
     have HGA:=Lib.hid (Dk.oT HGi.out (oB hdA))
     have HDA:=Lib.hid (HDi.out.below hdA)
     have HMA:=Lib.hid (HM.out.below hdA)
     have HVA:=Lib.hid hvA
     clear hvA hv
     cases hnb:noneB T ((n:Int) - 20+i) j with
     | false=>
      have HN:Hid (w.grownBy (wr.alloc (.cells #[] 185)) (some g.b)∧HasD (wr.alloc (.cells #[] 185)) g n (spS n j T V X (i+1))∧IsSet (wr.alloc (.cells #[] 185)) (w.heap.size+2) T j∧(wr.alloc (.cells #[] 185)).heap[w.heap.size+1]?=some (.cells (bl V).toArray 47 (0,0))∧∀i',i' < i+1→stopB n j T V X i'=false):=
       Lib.hid ⟨HGA.out,by rw[hSS.out,hnb,if_neg (by simp)]; exact HDA.out,HMA.out,HVA.out,fun i' h=>by
        by_cases e:i'=i
        ·subst e; rw[hST.out,hnb]; rfl
        ·exact hHZ.out i' (by omega)⟩
      have HNB:=Lib.hid hnb
      clear hnb hSS hST hHZ hrA HGA HDA HMA HVA hdA
      go_wp2_with (at_lookup; (refine wpList_lookup_own_unit _ rfl (.tmp 39) (.tmp 42) 184 rfl 3 185 key_int map_t (zero_unit _) (w.heap.size+2) j (setD T j) rfl HM.out (.int .i64 ((n:Int) - 20+i)) (.int .i64 ((n:Int) - 20+i)) rfl (key_of (by constructor <;> omega)) ?_); rw[setD_has,HNB.out])
      generalize wr.alloc (.cells #[] 185)=w7 at HN ⊢
      first
       | (go_roundw
          case rel=>exact⟨i+1,by omega,by go_num,HN⟩
          case measure=>simp[intOf]; omega)
       | exact⟨⟨i+1,by omega,by go_num,HN⟩,by simp[intOf]; omega⟩
     | true=>
      have HNB:=Lib.hid hnb
      have HOI:Hid (Ok 1 (spS n j T V X i)):=Lib.hid (hOKi.less (by omega))
      clear hnb
      go_wp2_with (first
       | (at_lookup; (refine wpList_lookup_own_unit _ rfl (.tmp 39) (.tmp 42) 184 rfl 3 185 key_int map_t (zero_unit _) (w.heap.size+2) j (setD T j) rfl HM.out (.int .i64 ((n:Int) - 20+i)) (.int .i64 ((n:Int) - 20+i)) rfl (key_of (by constructor <;> omega)) ?_); rw[setD_has,HNB.out])
       | (refine wpList_load_mid rfl 47 (.tmp 5) rfl (w.heap.size+1) 0 rfl (bl V) _ (by exact hrA) und rfl hl2 ?_; simp only[Act.put,aA]))
      generalize wr.alloc (.cells #[] 185)=w6 at HGA HDA HMA HVA hdA hrA ⊢
      refine(write_d HDA.out HOI.out ((n:Int) - 20+i) V).mono ?_
      rintro _ w7 ⟨rfl,hg7,hD7⟩
      have lt6:w.heap.size+1 < w6.heap.size:=Nat.lt_of_lt_of_le ltv hdA.size
      have HG7:=Lib.hid (Dk.oT HGA.out hg7)
      have HM7:=Lib.hid (HMA.out.kept hg7 (by intro h; injection h with h; omega))
      have HV7:=Lib.hid ((hg7.block (w.heap.size+1) lt6 (by simp; omega)).trans HVA.out)
      have HD7:Hid (HasD w7 g n (spS n j T V X (i+1))):=Lib.hid (by rw[hSS.out,HNB.out,if_pos rfl]; exact hD7)
      have hEc:spC n j T V X i=dWrE n (spS n j T V X i) ((n:Int) - 20+i):=rfl
      generalize dWrE n (spS n j T V X i) ((n:Int) - 20+i)=Ec at hEc ⊢
      have HEc:=Lib.hid hEc
      clear hEc hg7 hD7 hrA HGA HDA HMA HVA hdA hSS
      dsimp only
      by_cases e2:Ec=2
      ·have HN:Hid (w.grownBy w7 (some g.b)∧HasD w7 g n (spS n j T V X (i+1))∧IsSet w7 (w.heap.size+2) T j∧w7.heap[w.heap.size+1]?=some (.cells (bl V).toArray 47 (0,0))∧∀i',i' < i+1→stopB n j T V X i'=false):=
        Lib.hid ⟨HG7.out,HD7.out,HM7.out,HV7.out,fun i' h=>by
         by_cases e:i'=i
         ·subst e; rw[hST.out,HEc.out,e2]; simp
         ·exact hHZ.out i' (by omega)⟩
       subst e2
       clear hST hHZ HEc HG7 HM7 HV7 HD7
       go_wp2_with fail
       first
        | (go_roundw
           case rel=>exact⟨i+1,by omega,by go_num,HN⟩
           case measure=>simp[intOf]; omega)
        | exact⟨⟨i+1,by omega,by go_num,HN⟩,by simp[intOf]; omega⟩
      ·have ne2:(Ec == 2)=false:=by simpa using e2
       have HR:=Lib.hid (HAT.out i hHZ.out (by rw[hST.out,HNB.out,HEc.out]; simpa using e2) hlt)
       clear hST hHZ e2
       go_wp2_with fail
       go_ret2
       exact⟨by rw[HR.out.1,HR.out.2.1,HEc.out]; rfl,HG7.out,by rw[HR.out.2.2]; exact HD7.out⟩
    ·obtain rfl:i=20:=by omega
     have HR:=Lib.hid (HNO.out hHZ.out)
     go_wp2_with fail
     go_ret2
     exact⟨by rw[HR.out.1,HR.out.2.1]; rfl,HGi.out,by rw[HR.out.2.2]; exact HDi.out⟩
end Rm
namespace Rm
open Go.RowKit Dk Byt
attribute [local go_sem] zv29
attribute [local go_sem] zc29
structure Tab where
 gen:Int
 k:Nat
 F:Nat→Int
 T:Nat→Int
def Tab.next(M:Tab)(x to:Int):Tab:=⟨M.gen+1,rpK M.F M.k x,rpF M.F M.k x,rpT M.F M.T M.k x to⟩
def wA(M:Tab)(x:Int):Int:=atT M.F M.T M.k x
def w1X(n:Nat)(X:Dst)(M:Tab)(x:Int)(V:Nat→Int):Dst:=dWr n X (wA M x) V
def w2X(n:Nat)(X:Dst)(M:Tab)(x:Int)(V:Nat→Int):Dst:=spX n M.k M.T V (w1X n X M x V)
def w3X(n:Nat)(X:Dst)(M:Tab)(x:Int)(V:Nat→Int):Dst:=dFl n (w2X n X M x V)
def wN(n:Nat)(X:Dst)(M:Tab)(x:Int)(V:Nat→Int):Tab:=M.next x (spTo n M.k M.T V (w1X n X M x V))
def w4E(n:Nat)(X:Dst)(M:Tab)(x:Int)(V:Nat→Int):Int:=lyE n (w3X n X M x V) (wN n X M x V).gen (wN n X M x V).k (wN n X M x V).F (wN n X M x V).T
def w4X(n:Nat)(X:Dst)(M:Tab)(x:Int)(V:Nat→Int):Dst:=lyX n (w3X n X M x V) (wN n X M x V).gen (wN n X M x V).k (wN n X M x V).F (wN n X M x V).T
def wRes(n:Nat)(X:Dst)(M:Tab)(x:Int)(V:Nat→Int):Int × Dst × Tab:=
 if homeB n X M.gen M.k M.F M.T x=false then (1,X,M)
 else if dWrE n X (wA M x)≠2 then (dWrE n X (wA M x),w1X n X M x V,M)
 else if spE n M.k M.T V (w1X n X M x V)≠0 then (spE n M.k M.T V (w1X n X M x V),w2X n X M x V,M)
 else if dFlE n (w2X n X M x V)≠0 then (dFlE n (w2X n X M x V),w3X n X M x V,M)
 else if w4E n X M x V≠0 then (w4E n X M x V,w4X n X M x V,M)
 else if dFlE n (w4X n X M x V)≠0 then (dFlE n (w4X n X M x V),dFl n (w4X n X M x V),M)
 else (0,dFl n (w4X n X M x V),wN n X M x V)
def HasV(w:World)(v:Pl)(n:Nat)(X:Dst)(M:Tab):Prop:=∃pa cap,HasD w (v.hd [.int .i64 M.gen,.slice pa M.k cap]) n X∧Lay w w.heap.size v.b pa M.k cap 2 (prV M.F M.T)∧v.b≠0
section
variable {w w' u u':World}{v g:Pl}{n:Nat}{X:Dst}{m0 m1:Value}
theorem HasD.tab(h:HasD w (v.hd [m0,m1]) n X):w.cell? ⟨v.b,v.o+4,none⟩=some m0∧w.cell? ⟨v.b,v.o+4+1,none⟩=some m1∧∀j,w.frozen? ⟨v.b,j,none⟩=false:=by
 obtain⟨sa,sc,ca,cc,hh⟩:=h
 have hx:v.At w [_,_,_,_,m0,m1]:=Pl.at_hd.1 hh.bx
 exact⟨hx.cell (j:=4) (by simp),hx.cell (j:=5) (by simp),fun j=>hx.fr j⟩
theorem HasD.retab(h:HasD w (v.hd [m0,m1]) n X)(x0 x1:Value):HasD ((w.setCell ⟨v.b,v.o+4,none⟩ x0).setCell ⟨v.b,v.o+4+1,none⟩ x1) (v.hd [x0,x1]) n X:=by
 obtain⟨sa,sc,ca,cc,hh⟩:=h
 have hx:v.At w [_,_,_,_,m0,m1]:=Pl.at_hd.1 hh.bx
 have h1:=(hx.set (j:=4) (by simp) x0).set (j:=5) (by simp) x1
 have hg:w.grownBy ((w.setCell ⟨v.b,v.o+4,none⟩ x0).setCell ⟨v.b,v.o+4+1,none⟩ x1) (some v.b):=Dk.oT (only_put _ _ _ _) (only_put _ _ _ _)
 exact⟨sa,sc,ca,cc,Pl.at_hd.2 h1,(hh.ss.grown hg (Nat.le_refl _)).more hg.size,(hh.cs.grown hg (Nat.le_refl _)).more hg.size,hh.nb,hh.mb,hh.ts.grown hh.ss hg (Nat.le_refl _),hh.tc.grown hh.cs hg (Nat.le_refl _)⟩
def Keep(g:Pl)(w u:World):Prop:=w.grownBy u (some g.b)∧∃a b c d,Bx u g a b c d
theorem Keep.of(h:HasD w g n X):Keep g w w:=by
 obtain⟨sa,sc,ca,cc,hh⟩:=h
 exact⟨World.grownBy.refl _ _,_,_,_,_,hh.bx⟩
theorem Keep.below(h:Keep g w u)(hb:Below u.heap.size u u'):Keep g w u':=by
 obtain⟨hg,a,b,c,d,hx⟩:=h
 exact⟨Dk.oT hg (oB hb),a,b,c,d,hx.below hb⟩
theorem Keep.did(h:Keep g w u)(hg:u.grownBy u' (some g.b))(hd:HasD u' g n X):Keep g w u':=by
 obtain⟨sa,sc,ca,cc,hh⟩:=hd
 exact⟨Dk.oT h.1 hg,_,_,_,_,hh.bx⟩
theorem Keep.tab(h:Keep (v.hd [m0,m1]) w u):u.cell? ⟨v.b,v.o+4,none⟩=some m0∧u.cell? ⟨v.b,v.o+4+1,none⟩=some m1∧∀j,u.frozen? ⟨v.b,j,none⟩=false:=by
 obtain⟨_,a,b,c,d,hx⟩:=h
 have hx:v.At u [_,_,_,_,m0,m1]:=Pl.at_hd.1 hx
 exact⟨hx.cell (j:=4) (by simp),hx.cell (j:=5) (by simp),fun j=>hx.fr j⟩
theorem HasV.below{M:Tab}(h:HasV w v n X M)(hb:Below w.heap.size w w'):HasV w' v n X M:=by
 obtain⟨pa,cap,h1,h2,h3⟩:=h
 exact⟨pa,cap,h1.below hb,(h2.below hb).more hb.size,h3⟩
end
def TabOk(M:Tab):Prop:=M.k≤140737488355328∧∀i,i < M.k→i64 (M.F i)∧i64 (M.T i)
theorem home_parts{n:Nat}{X:Dst}{gen:Int}{k:Nat}{F T:Nat→Int}{x:Int}(h:homeB n X gen k F T x=true):28≤n∧n≤4096∧0≤gen∧gen≤4611686018427387904∧k≤20∧i64 x:=by
 unfold homeB at h
 simp only[Bool.and_eq_true,decide_eq_true_eq] at h
 obtain⟨⟨h1,h2⟩,h3⟩:=h
 obtain⟨h4,h5,h6,h7,_⟩:=right_parts h2
 have hb:=halfN_bd n
 obtain⟨l1,l2,_⟩:=lent_bd h3
 have hf:=hfN_bd n X
 obtain⟨_,e1⟩:=hb.2.2 h4
 refine⟨by omega,by omega,h5,h6,h7,by unfold i64; omega⟩
theorem spTo_bd{n k:Nat}{T V:Nat→Int}{X:Dst}(h0:28≤n)(h1:n≤4096):i64 (spTo n k T V X):=by
 have:∀i:Nat,spF n k T V X i < i:=fun i=>by
  induction i with
  | zero=>simp[spF]
  | succ i ih=>
   simp only[spF]
   split
   ·omega
   ·split <;> omega
 have:=this 20
 unfold spTo i64
 split <;> omega
theorem next_ok{M:Tab}(h:TabOk M)(hk:M.k≤20){x to:Int}(hx:i64 x)(ht:i64 to):TabOk (M.next x to):=by
 have hk':rpK M.F M.k x≤M.k+1:=by unfold rpK; split <;> omega
 refine⟨by show rpK M.F M.k x≤_; omega,fun i hi=>⟨?_,?_⟩⟩
 ·show i64 (rpF M.F M.k x i)
  unfold rpF
  split
  ·rename_i h0
   have:rpK M.F M.k x=M.k:=by unfold rpK; rw[if_pos h0]
   exact(h.2 i (by have hi':i < rpK M.F M.k x:=hi; omega)).1
  ·split
   ·exact hx
   ·exact(h.2 i (by have hi':i < rpK M.F M.k x:=hi; omega)).1
 ·show i64 (rpT M.F M.T M.k x to i)
  unfold rpT
  split
  ·rename_i h0
   have:rpK M.F M.k x=M.k:=by unfold rpK; rw[if_pos h0]
   split
   ·exact ht
   ·exact(h.2 i (by have hi':i < rpK M.F M.k x:=hi; omega)).2
  ·split
   ·exact ht
   ·exact(h.2 i (by have hi':i < rpK M.F M.k x:=hi; omega)).2
theorem spX_ok{n k:Nat}{T V:Nat→Int}{X:Dst}{m:Nat}(h:Ok (20+m) X):Ok m (spX n k T V X):=by
 have hb:∀i:Nat,spF n k T V X i < i:=fun i=>by
  induction i with
  | zero=>simp[spF]
  | succ i ih=>
   simp only[spF]
   split
   ·omega
   ·split <;> omega
 have:=hb 20
 unfold spX
 split
 ·exact(spS_ok (n:=n) (k:=k) (T:=T) (V:=V) h ((spF n k T V X 20).toNat+1) (by omega)).less (by omega)
 ·exact(spS_ok (n:=n) (k:=k) (T:=T) (V:=V) h 20 (by omega)).less (by omega)
theorem lyX_ok{n:Nat}{X:Dst}{gen:Int}{k:Nat}{F T:Nat→Int}(h:Ok 2 X):Ok 0 (lyX n X gen k F T):=by
 unfold lyX
 split
 ·unfold lyX'
  split
  ·exact(lyS_ok h 1 (by omega)).less (by omega)
  ·exact(lyS_ok h 2 (by omega)).less (by omega)
 ·exact h.less (by omega)
end Rm
namespace Rm
open Go.RowKit Dk Byt
attribute [local go_sem] zv29
attribute [local go_sem] zc29
section
variable {n:Nat}{X:Dst}{M:Tab}{x:Int}{V:Nat→Int}
theorem w_c0(h:homeB n X M.gen M.k M.F M.T x=false):wRes n X M x V=(1,X,M):=by unfold wRes; rw[if_pos h]
theorem w_c1(h:homeB n X M.gen M.k M.F M.T x=true)(h1:dWrE n X (wA M x)≠2):wRes n X M x V=(dWrE n X (wA M x),w1X n X M x V,M):=by unfold wRes; rw[if_neg (by rw[h]; simp),if_pos h1]
theorem w_c2(h:homeB n X M.gen M.k M.F M.T x=true)(h1:dWrE n X (wA M x)=2)(h2:spE n M.k M.T V (w1X n X M x V)≠0):wRes n X M x V=(spE n M.k M.T V (w1X n X M x V),w2X n X M x V,M):=by
 unfold wRes; rw[if_neg (by rw[h]; simp),if_neg (by rw[h1]; simp),if_pos h2]
theorem w_c3(h:homeB n X M.gen M.k M.F M.T x=true)(h1:dWrE n X (wA M x)=2)(h2:spE n M.k M.T V (w1X n X M x V)=0)(h3:dFlE n (w2X n X M x V)≠0):wRes n X M x V=(dFlE n (w2X n X M x V),w3X n X M x V,M):=by
 unfold wRes; rw[if_neg (by rw[h]; simp),if_neg (by rw[h1]; simp),if_neg (by rw[h2]; simp),if_pos h3]
theorem w_c4(h:homeB n X M.gen M.k M.F M.T x=true)(h1:dWrE n X (wA M x)=2)(h2:spE n M.k M.T V (w1X n X M x V)=0)(h3:dFlE n (w2X n X M x V)=0)(h4:w4E n X M x V≠0):wRes n X M x V=(w4E n X M x V,w4X n X M x V,M):=by
 unfold wRes; rw[if_neg (by rw[h]; simp),if_neg (by rw[h1]; simp),if_neg (by rw[h2]; simp),if_neg (by rw[h3]; simp),if_pos h4]
theorem w_c5(h:homeB n X M.gen M.k M.F M.T x=true)(h1:dWrE n X (wA M x)=2)(h2:spE n M.k M.T V (w1X n X M x V)=0)(h3:dFlE n (w2X n X M x V)=0)(h4:w4E n X M x V=0)(h5:dFlE n (w4X n X M x V)≠0):wRes n X M x V=(dFlE n (w4X n X M x V),dFl n (w4X n X M x V),M):=by
 unfold wRes; rw[if_neg (by rw[h]; simp),if_neg (by rw[h1]; simp),if_neg (by rw[h2]; simp),if_neg (by rw[h3]; simp),if_neg (by rw[h4]; simp),if_pos h5]
theorem w_c6(h:homeB n X M.gen M.k M.F M.T x=true)(h1:dWrE n X (wA M x)=2)(h2:spE n M.k M.T V (w1X n X M x V)=0)(h3:dFlE n (w2X n X M x V)=0)(h4:w4E n X M x V=0)(h5:dFlE n (w4X n X M x V)=0):wRes n X M x V=(0,dFl n (w4X n X M x V),wN n X M x V):=by
 unfold wRes; rw[if_neg (by rw[h]; simp),if_neg (by rw[h1]; simp),if_neg (by rw[h2]; simp),if_neg (by rw[h3]; simp),if_neg (by rw[h4]; simp),if_neg (by rw[h5]; simp)]
end
theorem new_tab{w w':World}{z:Int}{ao:Option Addr}{k c:Nat}(h:w.alloc (.cells #[.int .i64 z,.slice ao k c] 37)=w'):w'.cell? ⟨w.heap.size,0,none⟩=some (.int .i64 z)∧w'.cell? ⟨w.heap.size,1,none⟩=some (.slice ao k c)∧Hid (Below w.heap.size w w')∧Hid (w'.heap[w.heap.size]?=some (.cells #[.int .i64 z,.slice ao k c] 37 (0,0))):=by
 subst h
 have hx:=heap_alloc_new w (.cells #[.int .i64 z,.slice ao k c] 37)
 exact⟨by rw[cell_of_row _ _ _ _ _ _ hx]; rfl,by rw[cell_of_row _ _ _ _ _ _ hx]; rfl,Lib.hid ((Below.refl _ _).alloc (Nat.le_refl _) _),Lib.hid hx⟩
def Wrote(w:World)(v:Pl)(n:Nat)(R:Int × Dst × Tab)(e:Ending)(w':World):Prop:=e=.returned (.int .i64 R.1)∧w.grownBy w' (some v.b)∧HasV w' v n R.2.1 R.2.2
theorem rwrite_d{w:World}{v:Pl}{n:Nat}{X:Dst}(hk:Kp w)(hok:Ok 23 X)(gen:Int)(k:Nat)(F T:Nat→Int)(hT:HasV w v n X ⟨gen,k,F,T⟩)(hm:TabOk ⟨gen,k,F,T⟩)(x:Int)(V:Nat→Int) :
  Calls Tryz.prog 139 #[.pointer (some ⟨v.b,v.o,none⟩),.pointer (some ⟨v.b,v.o+4,none⟩),.int .i64 x,.agg (bl V).toArray] w (Wrote w v n (wRes n X ⟨gen,k,F,T⟩ x V)):=by
 unfold Wrote
 obtain⟨pa,cap,h,hl,hg0⟩:=hT
 obtain⟨hk47,hF⟩:=hm
 dsimp only at h hl hk47 hF
 have hm0:=h.tab
 obtain⟨g,hg⟩:∃g,g=v.hd [.int .i64 gen,.slice pa k cap]:=⟨_,rfl⟩
 have HKT:=Lib.hid (fun w u (hu:Keep g w u)=>(show Keep (v.hd [.int .i64 gen,.slice pa k cap]) w u by rw[←hg]; exact hu).tab)
 have HRT:=Lib.hid (fun w X (h:HasD w g n X)=>(show HasD w (v.hd [.int .i64 gen,.slice pa k cap]) n X by rw[←hg]; exact h).retab)
 rw[←hg] at h
 have HVV:=Lib.hid (fun w X (h:HasD w g n X) (hl:Lay w w.heap.size g.b pa k cap 2 (prV F T))=>show HasV w v n X ⟨gen,k,F,T⟩ from⟨pa,cap,by rw[←hg]; exact h,by rw[hg] at hl; exact hl,hg0⟩)
 have hgb:v.b=g.b:=by rw[hg]; rfl
 have hgo:v.o=g.o:=by rw[hg]; rfl
 rw[hgb] at hl hg0
 rw[hgb,hgo] at HKT HRT hm0 ⊢
 generalize hmo:g.o+4=mo at *
 have HVB:=Lib.hid hgb
 clear hg hmo hgb hgo
 have HD:=Lib.hid h
 have HK:=Lib.hid hk
 have HOK:=Lib.hid hok
 have HL:=Lib.hid hl
 have HFF:=Lib.hid hF
 have hgl:=h.lt
 have C0:=Lib.hid (@w_c0 n X ⟨gen,k,F,T⟩ x V)
 have C1:=Lib.hid (@w_c1 n X ⟨gen,k,F,T⟩ x V)
 have C2:=Lib.hid (@w_c2 n X ⟨gen,k,F,T⟩ x V)
 have C3:=Lib.hid (@w_c3 n X ⟨gen,k,F,T⟩ x V)
 have C4:=Lib.hid (@w_c4 n X ⟨gen,k,F,T⟩ x V)
 have C5:=Lib.hid (@w_c5 n X ⟨gen,k,F,T⟩ x V)
 have C6:=Lib.hid (@w_c6 n X ⟨gen,k,F,T⟩ x V)
 generalize wRes n X ⟨gen,k,F,T⟩ x V=R at C0 C1 C2 C3 C4 C5 C6 ⊢
 have HHM:=Lib.hid (fun W (h:HasD W g n X) hl=>home_d h gen k F T pa cap g x hl hk47 hF)
 have HHP:=Lib.hid (@home_parts n X gen k F T x)
 have hB0:Below w.heap.size w (w.alloc (.cells (bl V).toArray 47)):=(Below.refl _ _).alloc (Nat.le_refl _) _
 have hv0:(w.alloc (.cells (bl V).toArray 47)).heap[w.heap.size]?=some (.cells (bl V).toArray 47 (0,0)):=heap_alloc_new _ _
 have hs0:(w.alloc (.cells (bl V).toArray 47)).heap.size=w.heap.size+1:=by simp
 have d0:(w.alloc (.cells (bl V).toArray 47)).cell? ⟨g.b,mo,none⟩=some (.int .i64 gen):=(hB0.cell (p:=⟨g.b,mo,none⟩) hgl).trans hm0.1
 have d1:(w.alloc (.cells (bl V).toArray 47)).cell? ⟨g.b,mo+1,none⟩=some (.slice pa k cap):=(hB0.cell (p:=⟨g.b,mo+1,none⟩) hgl).trans hm0.2.1
 clear hm0
 have und:=und29
 have hl1:=bl_one V
 have hl2:=sB V
 have hl3:=bL V
 clear h hk hok hl hF
 go_enter Tryz.func139,Tryz.ntmps139
 go_wp2_with fail
 generalize w.alloc (.cells (bl V).toArray 47)=W at hB0 hv0 hs0 d0 d1 ⊢
 refine(HHM.out W (HD.out.below hB0) ((HL.out.below hB0).more (by omega))).mono ?_
 rintro _ w1 ⟨rfl,hb1⟩
 have hB1:Below w.heap.size w w1:=hB0.trans (hb1.mono (by omega))
 have hv1:=(hb1.block w.heap.size (by omega)).trans hv0
 have hs1:w.heap.size < w1.heap.size:=by have:=hb1.size; omega
 have hD1:=HD.out.below hB1
 have hL1:=(HL.out.below hB1).more hB1.size
 clear hB0 hb1 hv0 hs0 d0 d1 HHM
 dsimp only
 cases hom:homeB n X gen k F T x with
 | false=>
  have HR:=Lib.hid (C0.out hom)
  clear hom
  go_wp2_with fail
  go_ret
  exact⟨by rw[HR.out]; rfl,oB hB1,by rw[HR.out]; exact HVV.out _ _ hD1 hL1⟩
 | true=>
  obtain⟨hn0,hn1,hg1,hg2,hk20,hx64⟩:=HHP.out hom
  have HOM:=Lib.hid hom
  have HS:=Lib.hid (fun(u:World) (hu:Keep g w1 u)=>show u.heap[w.heap.size]?=some (.cells (bl V).toArray 47 (0,0)) from(hu.1.block w.heap.size hs1 (by simp; omega)).trans hv1)
  have HC:=Lib.hid (fun(u:World) (hu:Keep g w1 u)=>show u.cell? ⟨g.b,mo,none⟩=some (.int .i64 gen)∧u.cell? ⟨g.b,mo+1,none⟩=some (.slice pa k cap)∧u.rangeAt w.heap.size 0 (bl V) from
   ⟨(HKT.out _ u hu).1,(HKT.out _ u hu).2.1,fun j v hj=>by rw[cell_of_row _ _ _ _ _ _ (HS.out u hu),Nat.zero_add]; simpa using hj⟩)
  have HLY:=Lib.hid (fun(u:World) (hu:Keep g w1 u)=>(hL1.grown hu.1 (Nat.le_refl _)).more hu.1.size)
  have HKP:=Lib.hid (fun(u:World) (hu:Keep g w1 u)=>(HK.out.below hB1).grown hu.1 hg0)
  have HTW:=Lib.hid (fun(u:World) (hu:Keep g w1 u)=>show w.grownBy u (some g.b) from Dk.oT (oB hB1) hu.1)
  have hkp1:Keep g w1 w1:=Keep.of hD1
  have hdr:Keep g w1 w1.drew:=hkp1.below ⟨rfl,rfl,rfl,Nat.le_refl _,fun _ _=>rfl⟩
  obtain⟨s0,s1,s2⟩:=HC.out w1.drew hdr
  obtain⟨t0,t1,t2⟩:=HC.out w1 hkp1
  have HDD:=Lib.hid hD1
  clear hom C0 hL1 hD1 hv1 hkp1
  go_wp2_with fail
  clear t0 t1 t2
  go_region_held3 (fun w'=>w'.cell? ⟨g.b,mo,none⟩=some (.int .i64 gen)∧w'.cell? ⟨g.b,mo+1,none⟩=some (.slice pa k cap)∧w'.rangeAt w.heap.size 0 (bl V))
   (first
    | exact⟨s0,s1,s2⟩
    | exact HC.out w2 (hdr.below hb2)
    | exact HC.out w3 ((hdr.below hb2).did hg3 hD3))
   (first
    | ((go_at_call 161; refine(at_any gen k F T pa cap g x _ (by exact HLY.out w1.drew hdr) hk47).mono ?_; rintro _ w2 ⟨rfl,hb2⟩))
    | ((go_at_call 92; refine(write_d (by exact(HDD.out.below (w':=w1.drew) ⟨rfl,rfl,rfl,Nat.le_refl _,fun _ _=>rfl⟩).below hb2) (by exact HOK.out.less (by omega)) _ _).mono ?_; rintro _ w3 ⟨rfl,hg3,hD3⟩)))
  have hG3:Keep g w1 w3:=(hdr.below hb2).did hg3 hD3
  have hO1:Ok 22 (w1X n X ⟨gen,k,F,T⟩ x V):=HOK.out.wr
  have hD3':HasD w3 g n (w1X n X ⟨gen,k,F,T⟩ x V):=hD3
  have hE1:dWrE n X (wA ⟨gen,k,F,T⟩ x)=dWrE n X (atT F T k x):=rfl
  rw[hE1] at C1 C2 C3 C4 C5 C6
  generalize dWrE n X (atT F T k x)=E1 at C1 C2 C3 C4 C5 C6 ⊢
  have HG3:=Lib.hid hG3
  clear hE1 s0 s1 s2 hdr hb2 hg3 hD3 hG3
  by_cases e1:E1=2
  ·have C2':=Lib.hid (C2.out HOM.out e1)
   have C3':=Lib.hid (C3.out HOM.out e1)
   have C4':=Lib.hid (C4.out HOM.out e1)
   have C5':=Lib.hid (C5.out HOM.out e1)
   have C6':=Lib.hid (C6.out HOM.out e1)
   clear C1 C2 C3 C4 C5 C6
   subst e1
   generalize hX1:w1X n X ⟨gen,k,F,T⟩ x V=X1 at hO1 hD3' C2' C3' C4' C5' C6'
   have HX1:=Lib.hid hX1
   have hdr3:Keep g w1 w3.drew:=HG3.out.below ⟨rfl,rfl,rfl,Nat.le_refl _,fun _ _=>rfl⟩
   obtain⟨s0,s1,s2⟩:=HC.out w3.drew hdr3
   have HO1:=Lib.hid hO1
   have HD3:Hid (HasD w3.drew g n X1):=Lib.hid (hD3'.below ⟨rfl,rfl,rfl,Nat.le_refl _,fun _ _=>rfl⟩)
   clear hX1 hO1 hD3'
   go_wp2_with fail
   go_region_held3 (fun w'=>w'.cell? ⟨g.b,mo,none⟩=some (.int .i64 gen)∧w'.cell? ⟨g.b,mo+1,none⟩=some (.slice pa k cap)∧w'.rangeAt w.heap.size 0 (bl V))
    (first
     | exact⟨s0,s1,s2⟩
     | exact HC.out w4 (hdr3.did hg4 hD4))
    (first
     | ((go_at_call 162; refine(spare_d (mr:=2) HD3.out (by exact HO1.out) hn0 hn1 gen k F T pa cap g V (by exact HLY.out w3.drew hdr3) hk20 HFF.out).mono ?_; rintro _ w4 ⟨rfl,hg4,hD4⟩)))
   have hG4:Keep g w1 w4:=hdr3.did hg4 hD4
   have hX2:w2X n X ⟨gen,k,F,T⟩ x V=spX n k T V X1:=by unfold w2X; rw[HX1.out]
   have hX3:w3X n X ⟨gen,k,F,T⟩ x V=dFl n (spX n k T V X1):=by unfold w3X; rw[hX2]
   have hN:wN n X ⟨gen,k,F,T⟩ x V=⟨gen+1,rpK F k x,rpF F k x,rpT F T k x (spTo n k T V X1)⟩:=by unfold wN Tab.next; rw[HX1.out]
   have h4E:w4E n X ⟨gen,k,F,T⟩ x V=lyE n (dFl n (spX n k T V X1)) (gen+1) (rpK F k x) (rpF F k x) (rpT F T k x (spTo n k T V X1)):=by unfold w4E; rw[hX3,hN]
   have h4X:w4X n X ⟨gen,k,F,T⟩ x V=lyX n (dFl n (spX n k T V X1)) (gen+1) (rpK F k x) (rpF F k x) (rpT F T k x (spTo n k T V X1)):=by unfold w4X; rw[hX3,hN]
   have hO2:Ok 2 (spX n k T V X1):=spX_ok (m:=2) HO1.out
   have hTo:i64 (spTo n k T V X1):=spTo_bd hn0 hn1
   rw[hX2] at C2' C3' C4' C5' C6'
   rw[hX3] at C3'
   rw[h4E,h4X] at C4' C5' C6'
   rw[hN] at C6'
   have HG4:=Lib.hid hG4
   have HO2:=Lib.hid hO2
   clear hX2 hX3 hN h4E h4X hG4 hg4 hdr3 HD3 HO1 HX1 s0 s1 s2 hO2
   generalize spX n k T V X1=X2 at hD4 HO2 C2' C3' C4' C5' C6'
   generalize spTo n k T V X1=to at hTo C4' C5' C6' ⊢
   generalize spE n k T V X1=E2 at C2' C3' C4' C5' C6' ⊢
   by_cases e2:E2=0
   ·have C3:=Lib.hid (C3'.out e2)
    have C4:=Lib.hid (C4'.out e2)
    have C5:=Lib.hid (C5'.out e2)
    have C6:=Lib.hid (C6'.out e2)
    clear C2' C3' C4' C5' C6'
    subst e2
    go_wp2_with fail
    refine(flush_d hD4 (HO2.out.less (by omega))).mono ?_
    rintro _ w5 ⟨rfl,hg5,hD5⟩
    have HG5:=Lib.hid (HG4.out.did hg5 hD5)
    have HO3:Hid (Ok 2 (dFl n X2)):=Lib.hid HO2.out.fl
    clear hD4 hg5 HG4 HO2
    generalize dFl n X2=X3 at hD5 HO3 C3 C4 C5 C6
    generalize dFlE n X2=E3 at C3 C4 C5 C6 ⊢
    dsimp only
    by_cases e3:E3=0
    ·have C4':=Lib.hid (C4.out e3)
     have C5':=Lib.hid (C5.out e3)
     have C6':=Lib.hid (C6.out e3)
     clear C3 C4 C5 C6
     subst e3
     obtain⟨s0,s1,s2⟩:=HC.out w5 HG5.out
     go_wp2_with fail
     refine(replaced_any gen k F T pa cap g x to w5 (HLY.out w5 HG5.out) (by omega) hg1 hg2).mono ?_
     rintro _ w6 ⟨⟨v,rfl,ao,cp,rfl,hown⟩,hb6⟩
     have hTO:=next_ok (M:=⟨gen,k,F,T⟩) ⟨hk47,HFF.out⟩ hk20 hx64 hTo
     unfold Tab.next at hTO
     obtain⟨hk'47,hF'⟩:=hTO
     dsimp only at hk'47 hF'
     have HF':=Lib.hid hF'
     clear hF' s0 s1 s2
     generalize rpK F k x=k' at hown hk'47 HF' C4' C5' C6' ⊢
     generalize rpF F k x=F' at hown HF' C4' C5' C6' ⊢
     generalize rpT F T k x to=T' at hown HF' C4' C5' C6' ⊢
     have HG6:=Lib.hid (HG5.out.below hb6)
     have HD6:=Lib.hid (hD5.below hb6)
     have hs56:=hb6.size
     have hs15:=HG5.out.1.size
     have HOW:=Lib.hid hown
     clear hown hb6 hD5
     dsimp only
     go_wp2_with (refine wpList_store_row rfl 37 (.tmp 13) (.tmp 60) rfl w6.heap.size #[.int .i64 (gen+1),.slice ao k' cp] rfl rfl 37 _ (heap_alloc_new w6 _) (by kernel_rfl) rfl (tb_one _ _ _ _) ?_; rw[World.setRow_alloc_new]; simp only[Act.put]; generalize hW7:w6.alloc (.cells #[.int .i64 (gen+1),.slice ao k' cp] 37)=w7; obtain⟨k0,k1,HB7,HX7⟩:=new_tab hW7; clear hW7)
     have hO7:=owns_below HOW.out HB7.out
     have hG7:Keep g w1 w7:=HG6.out.below HB7.out
     have hg5:g < w5.heap.size:=by omega
     have hL7:=lay_own (g:=g) (fun i _=>prV_length F' T' i) hO7 (.inl hg5)
     have lt67:w6.heap.size < w7.heap.size:=(Array.getElem?_eq_some_iff.1 HX7.out).1
     refine(lay_d (HD6.out.below HB7.out) HO3.out (HKP.out w7 hG7) (gen+1) k' F' T' ao cp g hL7 hk'47 HF'.out).mono ?_
     rintro _ w8 ⟨rfl,hg8,hD8⟩
     have HO4:Hid (Ok 0 (lyX n X3 (gen+1) k' F' T')):=Lib.hid (lyX_ok HO3.out)
     have HG8:=Lib.hid (hG7.did hg8 hD8)
     have HX8:=Lib.hid ((hg8.block w6.heap.size lt67 (by simp; omega)).trans HX7.out)
     have own_ne:∀(a:Option Addr) (c:Nat) (u:World) (B:Nat) (xs:List Value),u.ownsRow B 110 2 (.slice a k' c) k' xs→∀q,q < B→(Value.slice a k' c).ownBlock=none∨(Value.slice a k' c).ownBlock≠some q:=fun a c u B xs h q hq=>by
      cases e:(Value.slice a k' c).ownBlock with
      | none=>exact .inl rfl
      | some r=>exact .inr (by have:=(h.lt r e).1; simp; omega)
     have HO8:=Lib.hid (hO7.kept hg8 (own_ne _ _ _ _ _ hO7 g hg5))
     have lt8:w7.heap.size≤w8.heap.size:=hg8.size
     clear hO7 hG7 hL7 hg8 HB7 HX7 HOW HG6 HD6 k0 k1
     generalize lyX n X3 (gen+1) k' F' T'=X4 at hD8 HO4 C4' C5' C6'
     generalize lyE n X3 (gen+1) k' F' T'=E4 at C4' C5' C6' ⊢
     dsimp only
     by_cases e4:E4=0
     ·have C5:=Lib.hid (C5'.out e4)
      have C6:=Lib.hid (C6'.out e4)
      clear C4' C5' C6'
      subst e4
      go_wp2_with fail
      refine(flush_d hD8 HO4.out).mono ?_
      rintro _ w9 ⟨rfl,hg9,hD9⟩
      have HG9:=Lib.hid (HG8.out.did hg9 hD9)
      have HX9:=Lib.hid ((hg9.block w6.heap.size (by omega) (by simp; omega)).trans HX8.out)
      have HO9:=Lib.hid (HO8.out.kept hg9 (own_ne _ _ _ _ _ HO8.out g hg5))
      obtain⟨q0,q1,qf⟩:=HKT.out _ w9 HG9.out
      have qf0:=qf mo
      have qf1:=qf (mo+1)
      clear qf
      have k0:w9.cell? ⟨w6.heap.size,0,none⟩=some (.int .i64 (gen+1)):=by rw[cell_of_row _ _ _ _ _ _ HX9.out]; rfl
      have k1:w9.cell? ⟨w6.heap.size,1,none⟩=some (.slice ao k' cp):=by rw[cell_of_row _ _ _ _ _ _ HX9.out]; rfl
      clear hD8 hg9 HG8 HX8 HO8
      generalize dFlE n X4=E5 at C5 C6 ⊢
      generalize dFl n X4=X5 at hD9 C5 C6
      dsimp only
      by_cases e5:E5=0
      ·have HR:=Lib.hid (C6.out e5)
       clear C5 C6
       subst e5
       have hDn:=HRT.out w9 _ hD9 (.int .i64 (gen+1)) (.slice ao k' cp)
       have hgB:w9.grownBy ((w9.setCell ⟨g.b,mo,none⟩ (.int .i64 (gen+1))).setCell ⟨g.b,mo+1,none⟩ (.slice ao k' cp)) (some g.b):=Dk.oT (only_put _ _ _ _) (only_put _ _ _ _)
       have hOn:=HO9.out.kept hgB (own_ne _ _ _ _ _ HO9.out g hg5)
       have HDn:=Lib.hid hDn
       have HgB:=Lib.hid hgB
       have HOn:=Lib.hid hOn
       clear hDn hgB hOn
       go_wp2_with fail
       go_ret
       exact⟨by rw[HR.out]; rfl,Dk.oT (HTW.out w9 HG9.out) HgB.out,by rw[HR.out]; exact⟨ao,cp,HDn.out,by rw[HVB.out]; exact lay_own (g:=g) (fun i _=>prV_length F' T' i) HOn.out (.inl hg5),by rw[HVB.out]; exact hg0⟩⟩
      ·have HR:=Lib.hid (C5.out e5)
       have ne:(E5 == 0)=false:=by simpa using e5
       clear C5 C6 e5
       go_wp2_with fail
       go_ret
       exact⟨by rw[HR.out]; rfl,HTW.out w9 HG9.out,by rw[HR.out]; exact HVV.out _ _ hD9 (HLY.out w9 HG9.out)⟩
     ·have HR:=Lib.hid (C4'.out e4)
      have ne:(E4 == 0)=false:=by simpa using e4
      clear C4' C5' C6' e4
      go_wp2_with fail
      go_ret
      exact⟨by rw[HR.out]; rfl,HTW.out w8 HG8.out,by rw[HR.out]; exact HVV.out _ _ hD8 (HLY.out w8 HG8.out)⟩
    ·have HR:=Lib.hid (C3.out e3)
     have ne:(E3 == 0)=false:=by simpa using e3
     clear C3 C4 C5 C6 e3
     go_wp2_with fail
     go_ret
     exact⟨by rw[HR.out]; rfl,HTW.out w5 HG5.out,by rw[HR.out]; exact HVV.out _ _ hD5 (HLY.out w5 HG5.out)⟩
   ·have HR:=Lib.hid (C2'.out e2)
    have ne:(E2 == 0)=false:=by simpa using e2
    clear C2' C3' C4' C5' C6' e2
    go_wp2_with fail
    go_ret
    exact⟨by rw[HR.out]; rfl,HTW.out w4 HG4.out,by rw[HR.out]; exact HVV.out _ _ hD4 (HLY.out w4 HG4.out)⟩
  ·have HR:=Lib.hid (C1.out HOM.out e1)
   have ne:(E1 == 2)=false:=by simpa using e1
   clear C1 C2 C3 C4 C5 C6 e1
   go_wp2_with fail
   go_ret
   exact⟨by rw[HR.out]; rfl,HTW.out w3 HG3.out,by rw[HR.out]; exact HVV.out _ _ hD3' (HLY.out w3 HG3.out)⟩
end Rm
namespace Vl
open Go.RowKit Dk Gm Eqb Byt Rm
theorem own_only{w w':World}{base:Nat}{t:TypeId}{q:Nat}{v:Value}{n:Nat}{l:List Value}{b:Nat}(h:w.ownsRow base t q v n l)(hg:w.grownBy w' (some b))(hb:b < base):w'.ownsRow base t q v n l:=
 h.kept hg (by
  cases e:v.ownBlock with
  | none=>exact .inl rfl
  | some c=>exact .inr fun hc=>by injection hc with hc; have:=(h.lt c e).1; omega)
theorem owns_more{w:World}{B B':Nat}{e:TypeId}{k n:Nat}{v:Value}{xs:List Value}(h:w.ownsRow B e k v n xs)(hb:B'≤B):w.ownsRow B' e k v n xs:=by
 refine⟨h.1,?_⟩
 rcases h.2 with h2 | ⟨g,cap,cur,hv,hb',h5⟩
 ·exact .inl h2
 ·exact .inr ⟨g,cap,cur,hv,by omega,h5⟩
section
variable {w w':World}{base base' b:Nat}{n m:Nat}{S:Nat→Sec}{C:Nat→Wr}{fu:Int}{d:Bool}{gen:Int}{k:Nat}{F T:Nat→Int}{A B Z:Int}{kk:Nat}{f:Nat→Int}{u:Value}{sa ca pa ao:Option Addr}{sc cc cap kc:Nat}
end
theorem undV:Tryz.prog.underlying 43=some (.struct (Tryz.prog.fieldsOf 43)):=by kernel_rfl
section
variable {w W:World}{n m:Nat}{S:Nat→Sec}{C:Nat→Wr}{fu:Int}{d:Bool}{gen:Int}{k:Nat}{F T:Nat→Int}{A B Z:Int}{kk:Nat}{f:Nat→Int}{sa:Option Addr}{sc:Nat}{ca:Option Addr}{cc:Nat}{pa:Option Addr}{cap:Nat}{ao:Option Addr}{kc:Nat}{L:Nat→Bool}{u0 u1 u2 u3 u4 u5 u6 u7 u8 u9:Value}{w' w'':World}
end
end Vl
end Go.Proofs.YteaocagepfgfnaaGreatDoor
