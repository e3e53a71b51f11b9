import Derived.Test.YteaocagepfgfnaaGreatDoorPJPt
import Derived.Test.YteaocagepfgfnaaGreatDoorPSpTk
import Derived.Laws.CopyOwn
import Derived.IntWalk
import Derived.Deep.RegionHeld3
import Derived.Test.YteaocagepfgfnaaGreatDoorPAl
set_option maxRecDepth 100000
set_option maxHeartbeats 8000000
namespace Go.Proofs.YteaocagepfgfnaaGreatDoor
namespace Pt
open Go.RowKit Dk Eqb Byt
def withinB(n:Nat)(a:Int):Bool:=decide (0≤a) && decide (a≤(n:Int) - 40)
theorem within_iff{n:Nat}{a:Int}:withinB n a=true↔0≤a∧a≤(n:Int) - 40:=by simp[withinB]
theorem within_any(ao:Option Addr)(n cap:Nat)(a:Int)(w:World)(hn:n≤140737488355328) :
  Calls Tryz.prog 135 #[.slice ao n cap,.int .i64 a] w fun e w'=>e=.returned (.bool (withinB n a))∧w=w':=by
 by_cases h0:0≤a
 ·rw[show withinB n a=decide (a≤(n:Int) - 40) by simp[withinB,h0]]
  go_enter Tryz.func135,Tryz.ntmps135
  go_wp2_with fail
  go_ret
  exact⟨rfl,rfl⟩
 ·rw[show withinB n a=false by simp[withinB,h0]]
  go_enter Tryz.func135,Tryz.ntmps135
  go_wp2_with fail
  go_ret
  exact⟨rfl,rfl⟩
def noneN:Int:=4294967295
def side(z:Int):Int:=if z = -1 then noneN else z
theorem side_none:side (-1)=4294967295:=rfl
theorem side_other{z:Int}(h:z≠-1):side z=z:=if_neg h
theorem putside_any(w:World)(B:Nat)(ao:Option Addr)(n cap:Nat)(f:Nat→Int)(a z:Int)(h:Wd.Own w B ao n cap f)(hn:n≤140737488355328) :
  Calls Tryz.prog 141 #[.slice ao n cap,.int .i64 a,.int .i64 z] w fun e w'=>e=.returned (.tuple #[])∧Wd.Only w w' ao∧Wd.Own w' B ao n cap (Wd.putF n a 4 (side z) f):=by
 by_cases e:z = -1
 ·subst e
  have HP:=Lib.hid (Wd.put_any w B ao n cap f a 4 4294967295 h hn)
  clear h
  go_enter Tryz.func141,Tryz.ntmps141
  go_wp2_with fail
  refine HP.out.mono ?_
  rintro _ w1 ⟨rfl,hG,hO⟩
  dsimp only
  go_wp2_with fail
  go_returns
  exact⟨rfl,hG,by rw[side_none]; exact hO⟩
 ·have e':(z == -1)=false:=by simpa using e
  have HS:=Lib.hid (side_other e)
  have HP:=Lib.hid (Wd.put_any w B ao n cap f a 4 z h hn)
  clear h e
  go_enter Tryz.func141,Tryz.ntmps141
  go_wp2_with fail
  refine HP.out.mono ?_
  rintro _ w1 ⟨rfl,hG,hO⟩
  dsimp only
  go_wp2_with fail
  go_returns
  exact⟨rfl,hG,by rw[HS.out]; exact hO⟩
theorem row_splice{w':World}{g n off k:Nat}{f q:Nat→Int}{cur:Array Value}{ty:TypeId}(hz:∀j,j < n→cur[0+j]?=some (.int .u8 (f j)))(hfit:off+k≤n)(hw:w'.heap[g]?=some (.cells (splice cur.toList off ((List.range k).map fun j=>Value.int .u8 (q j))).toArray ty (0,0))) :
  Row w' g 0 n (mix f off k q):=by
 refine⟨⟨_,⟨_,hw⟩,fun j hj=>?_⟩⟩
 have hlen:n≤cur.size:=by
  have:=(Array.getElem?_eq_some_iff.1 (hz (n - 1) (by omega))).1
  omega
 rw[Nat.zero_add,List.getElem?_toArray]
 unfold splice
 by_cases h1:j < off
 ·rw[List.getElem?_append_left (by simp; omega),List.getElem?_take,if_pos h1,mix_out (by omega)]
  have:=hz j hj
  rw[Nat.zero_add] at this
  simpa using this
 ·have e0:(cur.toList.take off).length=off:=by simp; omega
  rw[List.getElem?_append_right (by omega),e0]
  by_cases h2:j < off+k
  ·rw[List.getElem?_append_left (by simp; omega),mix_in (by omega) (by omega)]
   simp[show j - off < k by omega]
  ·rw[List.getElem?_append_right (by simp; omega),mix_out (by omega),List.getElem?_drop]
   have:=hz j hj
   rw[Nat.zero_add] at this
   have e1:off+((List.range k).map fun j=>Value.int .u8 (q j)).length+(j - off - ((List.range k).map fun j=>Value.int .u8 (q j)).length)=j:=by simp; omega
   rw[e1]
   simpa using this
theorem qs_one(q:Nat→Int)(k:Nat):∀v ∈ (List.range k).map fun j=>Value.int .u8 (q j),v.oneCell'=true:=by
 intro v hv
 simp only[List.mem_map] at hv
 obtain⟨j,_,rfl⟩:=hv
 rfl
theorem run_cut(g n cap e:Nat)(x:Int)(hx:x=(e:Int))(he:e≤n)(hc:e < cap)(_hn:n≤cap)(W:World) :
  (Instr.sliceAt 39 (.slice (some ⟨g,0,none⟩) n cap) (some (.int .i64 x)) none none).run Tryz.prog W=.ok (.slice (some ⟨g,e,none⟩) (n - e) (cap - e)) W:=by
 subst hx
 rw[run_sliceAt_slice W 39 _ _ _ _ Sha.under_elem,run_slice_l W 39 (some ⟨g,0,none⟩) n cap Sha.under_elem .i64 (e:Int) (by omega) (by omega),Sha.size_elem]
 simp only[Result.andThen,sliced,Int.toNat_natCast]
 rw[if_neg (by omega)]
 simp[Addr.add_mid]
theorem u8_size:(Tryz.prog.info? 5).map (·.size)=some 1:=by kernel_rfl
theorem step_copy_row{ops:Array Oper}{o:Oper}{a:Act}{w:World}{K:Act→World→Prop}{Q:Exit→Act→World→Prop}{E:Prop}(hgd:o.guard=none)(d s:Operand)
  (ho:o.op=.call { callee:=.builtin .copy,args:=#[d,s],argTypes:=#[39,39] }) (g off dLen dCap:Nat) (ad:Addr) (sLen sCap:Nat) (hd:a.eval d=.slice (some ⟨g,off,none⟩) dLen dCap) (hs:a.eval s=.slice (some ad) sLen sCap)
  (n:Nat) (f q:Nat→Int) (hr:Row w g 0 n f) (k:Nat) (hk:k=Nat.min sLen dLen) (hsrc:∀j,j < k→w.cell? (ad.add j)=some (.int .u8 (q j))) (hfit:off+k≤n) (hn0:0 < n)
  (h:∀w',Hid (Row w' g 0 n (mix f off k q))→w.grownBy w' (some g)→K (a.put o.dst (goInt k)) w') :
  if Region.wanted o (yielded ops a.tmps)=true then Oper.wp Tryz.prog o a w K Q else E:=by
 have hw:Region.wanted o (yielded ops a.tmps)=true:=by simp[Region.wanted,hgd]
 rw[if_pos hw]
 obtain⟨cur,⟨ty,hc⟩,hz⟩:=hr.cur
 have hlen:n≤cur.size:=by
  have:=(Array.getElem?_eq_some_iff.1 (hz (n - 1) (by omega))).1
  omega
 have hcl:((List.range k).map fun j=>Value.int .u8 (q j)).length=k:=by simp
 have hrun:=run_copy_row (P:=Tryz.prog) w 39 39 o.type 5 g off dLen dCap ad sLen sCap cur ty ((List.range k).map fun j=>Value.int .u8 (q j)) bytes_slice u8_size hc (by rw[hcl]; exact hk) (fun j v hv=>by
  have hj:j < k:=by
   have:=(List.getElem?_eq_some_iff.1 hv).1
   rwa [hcl] at this
  rw[hsrc j hj]
  simpa[hj] using hv) (by rw[hcl]; omega) (qs_one q k)
 unfold Oper.wp
 simp only[hcl] at hrun
 simp[execOp,ho,resolve,invoke,builtin,hd,hs,hrun,Result.andThen]
 refine h _ (row_splice hz hfit (ty:=ty) ?_) ⟨rfl,rfl,rfl,by simp[World.setRow],fun k _ hr=>setRow_other w g k _ (by simpa using fun e=>hr (by rw[e]))⟩
 have:=setRow_heap w g cur (cur.toList.take off ++ ((List.range k).map (fun j=>Value.int .u8 (q j)) ++ cur.toList.drop (off+k))).toArray ty (0,0) hc
 rw[this]
 unfold splice
 rw[hcl]
def ppG(n:Nat)(a:Int)(p:Pn):Bool:=rightB p && withinB n a
def ppF(n:Nat)(a:Int)(p:Pn)(f:Nat→Int):Nat→Int:=if ppG n a p then mix (Wd.putF n (a+4) 4 (side p.B) (Wd.putF n a 4 (side p.A) f)) (a+8).toNat 32 p.S else f
def ppE(n:Nat)(a:Int)(p:Pn):Int:=if ppG n a p then 0 else 1
def PpPost(w:World)(B:Nat)(ao:Option Addr)(n cap:Nat)(a:Int)(p:Pn)(f:Nat→Int)(e:Ending)(w':World):Prop:=
 e=.returned (.int .i64 (ppE n a p))∧Wd.Only w w' ao∧Wd.Own w' B ao n cap (ppF n a p f)
theorem pp_no{n:Nat}{a:Int}{p:Pn}(h:ppG n a p=false)(f:Nat→Int):ppF n a p f=f∧ppE n a p=1:=by
 unfold ppF ppE
 rw[h]
 exact⟨rfl,rfl⟩
theorem pp_yes{n a:Nat}{p:Pn}(h:ppG n a p=true)(f:Nat→Int):ppF n a p f=mix (Wd.putF n ((a:Int)+4) 4 (side p.B) (Wd.putF n a 4 (side p.A) f)) (a+8) 32 p.S∧ppE n a p=0:=by
 unfold ppF ppE
 rw[h]
 exact⟨rfl,rfl⟩
theorem oB{w w':World}{ao:Option Addr}(h:Below w.heap.size w w'):Wd.Only w w' ao:=⟨h.os,h.tape,h.output,h.size,fun k hk _=>h.block k hk⟩
theorem Only.trans'{w w1 w2:World}{ao:Option Addr}(h:Wd.Only w w1 ao)(k:Wd.Only w1 w2 ao):Wd.Only w w2 ao:=
 ⟨k.os.trans h.os,k.tape.trans h.tape,k.output.trans h.output,Nat.le_trans h.size k.size,fun i hi hr=>(k.block i (by have:=h.size; omega) hr).trans (h.block i hi hr)⟩
theorem put_any(w:World)(B:Nat)(ao:Option Addr)(n cap:Nat)(f:Nat→Int)(a:Int)(p:Pn)(h:Wd.Own w B ao n cap f)(hn:n≤140737488355328) :
  Calls Tryz.prog 110 #[.slice ao n cap,.int .i64 a,.agg (pV p).toArray] w (PpPost w B ao n cap a p f):=by
 obtain⟨W,hW,hb0,hx0,hs0⟩:∃W,W=w.alloc (.cells (pV p).toArray 24)∧Below w.heap.size w W∧W.heap[w.heap.size]?=some (.cells (pV p).toArray 24 (0,0))∧W.heap.size=w.heap.size+1:=⟨_,rfl,box_pt w p⟩
 have hO0:Wd.Own W B ao n cap f:=h.below hb0
 have HR:=Lib.hid (fun W=>right_any p W)
 have HW:=Lib.hid (fun W=>within_any ao n cap a W hn)
 cases hr:rightB p with
 | false=>
  obtain⟨e1,e2⟩:=pp_no (n:=n) (a:=a) (p:=p) (show ppG n a p=false by unfold ppG; rw[hr]; rfl) f
  have HE:=Lib.hid e1
  have HE2:=Lib.hid e2
  rw[hr] at HR
  clear e1 e2 hr HW
  go_enter Tryz.func110,Tryz.ntmps110
  subst hW
  go_wp2_with (refine @wG _ _ _ _ _ _ _ (by kernel_rfl) 24 (.tmp 5) rfl w.heap.size 0 rfl (pV p) _ (rP hx0) undP rfl (sizeP p) ?_; simp only[Act.put,aA])
  generalize w.alloc (.cells (pV p).toArray 24)=W at hb0 hx0 hs0 hO0 ⊢
  refine(HR.out W).mono ?_
  rintro _ w1 ⟨rfl,hb1⟩
  dsimp only
  go_wp2_with fail
  go_ret
  exact⟨by rw[HE2.out]; rfl,oB (hb0.trans (hb1.mono (by omega))),by rw[HE.out]; exact hO0.below hb1⟩
 | true=>
  cases hw:withinB n a with
  | false=>
   obtain⟨e1,e2⟩:=pp_no (n:=n) (a:=a) (p:=p) (show ppG n a p=false by unfold ppG; rw[hr,hw]; rfl) f
   have HE:=Lib.hid e1
   have HE2:=Lib.hid e2
   rw[hr] at HR
   rw[hw] at HW
   clear e1 e2 hr hw
   go_enter Tryz.func110,Tryz.ntmps110
   subst hW
   go_wp2_with (refine @wG _ _ _ _ _ _ _ (by kernel_rfl) 24 (.tmp 5) rfl w.heap.size 0 rfl (pV p) _ (rP hx0) undP rfl (sizeP p) ?_; simp only[Act.put,aA])
   generalize w.alloc (.cells (pV p).toArray 24)=W at hb0 hx0 hs0 hO0 ⊢
   refine(HR.out W).mono ?_
   rintro _ w1 ⟨rfl,hb1⟩
   dsimp only
   go_wp2_with fail
   refine(HW.out w1).mono ?_
   rintro _ w2 ⟨rfl,rfl⟩
   dsimp only
   go_wp2_with fail
   go_ret
   exact⟨by rw[HE2.out]; rfl,oB (hb0.trans (hb1.mono (by omega))),by rw[HE.out]; exact hO0.below hb1⟩
  | true=>
   obtain⟨h0,h1⟩:=within_iff.1 hw
   obtain⟨a',rfl⟩:∃m:Nat,a=m:=⟨a.toNat,by omega⟩
   obtain⟨e1,e2⟩:=pp_yes (n:=n) (a:=a') (p:=p) (show ppG n a' p=true by unfold ppG; rw[hr,hw]; rfl) f
   have HE:=Lib.hid e1
   have HE2:=Lib.hid e2
   rw[hr] at HR
   rw[hw] at HW
   obtain⟨g,rfl,hBg,hrow⟩:=h.row.resolve_left (by rintro⟨_,h0⟩; omega)
   have hgl:=hrow.lt
   have hcap:=h.room
   clear e1 e2 hr hw hrow h
   go_enter Tryz.func110,Tryz.ntmps110
   subst hW
   go_wp2_with (refine @wG _ _ _ _ _ _ _ (by kernel_rfl) 24 (.tmp 5) rfl w.heap.size 0 rfl (pV p) _ (rP hx0) undP rfl (sizeP p) ?_; simp only[Act.put,aA])
   generalize w.alloc (.cells (pV p).toArray 24)=W at hb0 hx0 hs0 hO0 ⊢
   refine(HR.out W).mono ?_
   rintro _ w1 ⟨rfl,hb1⟩
   have hx1:=(hb1.block w.heap.size (by omega)).trans hx0
   have hB1:=hb0.trans (hb1.mono (by omega))
   have hs1:=hb1.size
   have hO1:=hO0.below hb1
   clear hx0 hO0 hb1
   dsimp only
   go_wp2_with fail
   refine(HW.out w1).mono ?_
   rintro _ w2 ⟨rfl,rfl⟩
   have HO1:=Lib.hid hO1
   have cA:=cA_pt hx1
   clear hO1
   dsimp only
   go_wp2_with fail
   refine(putside_any w1 B (some ⟨g,0,none⟩) n cap f a' p.A HO1.out hn).mono ?_
   rintro _ w3 ⟨rfl,hG3,hO3⟩
   have hx3:=(hG3.block w.heap.size (by omega) (by simp; omega)).trans hx1
   have hs3:=hG3.size
   have HO3:=Lib.hid hO3
   have HG3:=Lib.hid (Only.trans' (oB hB1) hG3)
   have cB:=cB_pt hx3
   clear cA hx1 hG3 hO3 HO1
   dsimp only
   go_wp2_with fail
   refine(putside_any w3 B (some ⟨g,0,none⟩) n cap _ _ p.B HO3.out hn).mono ?_
   rintro _ w4 ⟨rfl,hG4,hO4⟩
   have hx4:=(hG4.block w.heap.size (by omega) (by simp; omega)).trans hx3
   have hs4:=hG4.size
   have HO4:=Lib.hid hO4
   have HG4:=Lib.hid (Only.trans' HG3.out hG4)
   have HS4:=Lib.hid (fun j (hj:j < 32)=>cS_pt hx4 hj)
   clear cB hx3 hx4 hG4 hO4 HO3 HG3
   dsimp only
   go_wp2_with fail
   have hrow4:Row w4.drew g 0 n (Wd.putF n ((a':Int)+4) 4 (side p.B) (Wd.putF n a' 4 (side p.A) f)):=by
    rcases HO4.out.row with ⟨e,_⟩ | ⟨g',e,_,hr⟩
    ·cases e
    ·injection e with e
     injection e with e
     subst e
     exact hr.block rfl
   have HR4:=Lib.hid hrow4
   have hsl:IntKind.i64.wrap ((a':Int)+8)=(a':Int)+8:=IntWalk.i64_in _ (by omega)
   have hcut:=fun W=>run_cut g n cap (a'+8) ((a':Int)+8) (by omega) (by omega) (by omega) hcap W
   clear hrow4 HO4
   go_region_law
    ((refine step_copy_row rfl (.tmp 31) (.tmp 33) (by rfl) g (a'+8) _ _ ⟨w.heap.size,2,none⟩ 32 32 (by rfl) (by rfl) n _ p.S (by exact HR4.out) 32 (by show 32=min 32 _; omega) (fun j hj=>by rw[Addr.add_mid]; exact HS4.out j hj) (by omega) (by omega) ?_; intro w5 HR5 hG5))
   all_goals
    go_wp2_with fail
    go_ret
    refine⟨by rw[HE2.out]; rfl,Only.trans' HG4.out (Only.trans' (w1:=w4.drew) (oB ⟨rfl,rfl,rfl,Nat.le_refl _,fun _ _=>rfl⟩) hG5),?_⟩
    rw[HE.out]
    exact⟨hcap,(fun e=>by cases e),.inr ⟨g,rfl,hBg,HR5.out⟩⟩
end Pt
namespace Pt
open Go.RowKit Dk Eqb Byt
def sideT(n:Nat)(a:Int)(f:Nat→Int):Int:=if Wd.takeN n a 4 f=noneN then -1 else Wd.takeN n a 4 f
theorem sideT_none{n:Nat}{a:Int}{f:Nat→Int}{z:Int}(h:Wd.takeN n a 4 f=z)(e:z=4294967295):sideT n a f = -1:=by
 unfold sideT noneN
 rw[h,if_pos e]
theorem sideT_other{n:Nat}{a:Int}{f:Nat→Int}{z:Int}(h:Wd.takeN n a 4 f=z)(e:z≠4294967295):sideT n a f=z:=by
 unfold sideT noneN
 rw[h,if_neg e]
theorem takeside_any(w:World)(ao:Option Addr)(n cap:Nat)(f:Nat→Int)(a:Int)(h:Wd.Reads w ao n cap f)(hf:∀i,i < n→0≤f i∧f i < 256)(hn:n≤140737488355328) :
  Calls Tryz.prog 136 #[.slice ao n cap,.int .i64 a] w fun e w'=>e=.returned (.int .i64 (sideT n a f))∧w=w':=by
 have HT:=Lib.hid (Wd.take_any w ao n cap f a 4 h hf hn)
 have HS:∀z,Wd.takeN n a 4 f=z→Hid ((z=4294967295→sideT n a f = -1)∧(z≠4294967295→sideT n a f=z)):=fun z hz=>Lib.hid ⟨sideT_none hz,sideT_other hz⟩
 have HS':=HS _ rfl
 clear h hf HS
 generalize Wd.takeN n a 4 f=z at *
 generalize Wd.takeE n a 4 f=e at *
 by_cases hz:z=4294967295
 ·have HV:=Lib.hid (HS'.out.1 hz)
  clear HS'
  subst hz
  go_enter Tryz.func136,Tryz.ntmps136
  go_wp2_with fail
  refine HT.out.mono ?_
  rintro _ w1 ⟨rfl,rfl⟩
  dsimp only
  go_wp2_with fail
  go_ret
  exact⟨by rw[HV.out]; rfl,rfl⟩
 ·have HV:=Lib.hid (HS'.out.2 hz)
  have hz':(z == 4294967295)=false:=by simpa using hz
  clear HS' hz
  go_enter Tryz.func136,Tryz.ntmps136
  go_wp2_with fail
  refine HT.out.mono ?_
  rintro _ w1 ⟨rfl,rfl⟩
  dsimp only
  go_wp2_with fail
  go_ret
  exact⟨by rw[HV.out]; rfl,rfl⟩
def tkP(n:Nat)(a:Int)(f:Nat→Int):Pn:=⟨sideT n a f,sideT n (a+4) f,fun i=>f ((a+8).toNat+i)⟩
def tkV(n:Nat)(a:Int)(f:Nat→Int):Pn:=if withinB n a=true then if rightB (tkP n a f)=true then tkP n a f else pz else pz
def tkE(n:Nat)(a:Int)(f:Nat→Int):Int:=if withinB n a=true then if rightB (tkP n a f)=true then 0 else 15 else 1
theorem wp_buildV{P:Program}{o:Oper}{a:Act}{w:World}{K:Act→World→Prop}{Q:Exit→Act→World→Prop}(t:TypeId)(parts:Array (Nat × Operand))(ho:o.op=.build t parts)
  (cells:Array Value) (hf:P.built t (parts.map fun(i,x)=>(i,a.eval x)).toList=some cells) (h:K (a.put o.dst (.agg cells)) w):o.wp P a w K Q:=by
 unfold Oper.wp execOp
 simp only[ho,Sem.run_bind,run_build w t _ _ hf,Result.andThen_ok]
 exact h
theorem rowSum{w:World}{g n a:Nat}{f:Nat→Int}(h:Row w g 0 n f)(ha:a+40≤n):w.rangeAt g (a+8) (Sha.arr 32 (Sha.vu8 fun i=>f (a+8+i))).toList:=fun j v hv=>by
 have hj:j < 32:=by
  have:=(List.getElem?_eq_some_iff.1 hv).1
  simpa[Sha.arr_size] using this
 have hc:=h.cell (j:=a+8+j) (by omega)
 rw[Nat.zero_add] at hc
 rw[hc]
 have h1:(Sha.arr 32 (Sha.vu8 fun i=>f (a+8+i))).toList[j]?=some (.int .u8 (f (a+8+j))):=by
  have:=Sha.arr_get (Sha.vu8 fun i=>f (a+8+i)) hj
  simpa[Sha.vu8] using this
 rw[h1] at hv
 exact hv
theorem run_arr(x:Option Addr)(len cap:Nat)(h:32≤len)(W:World):(Instr.arrayAt 22 (.slice x len cap)).run Tryz.prog W=.ok (.pointer x) W:=by
 simp[Instr.arrayAt,run_underlying undS,show ¬ len < 32 by omega]
def TkInv(x2 x3 x4 x5 x7 x8 x9 x10 x11 x27 x28 x29 x30 x31:Value)(g n cap a:Nat)(TA TB:Int)(S:Nat→Int)(w0:World)(L:Nat→Bool)(a':Act)(w':World):Prop:=
 ∃u0 u1 u2 u3 u4 u5 u6 u7 u8 u9 u10 u11 u12 u13 u14 u15,a'={ tmps:=#[.slice (some ⟨g,0,none⟩) n cap,.int .i64 (a:Int),x2,x3,x4,x5,u15,x7,x8,x9,x10,x11,u0,u1,u2,u3,u4,u5,u6,u7,u8,u9,u10,u11,u12,u13,u14,x27,x28,x29,x30,x31],defers:=[] }∧(L 0=true→u0=.slice (some ⟨g,0,none⟩) n cap)∧(L 1=true→u1=.int .i64 (a:Int))∧(L 2=true→u2=.int .i64 (a:Int))∧(L 3=true→u3=.int .i64 TA)∧(L 4=true→u4=.slice (some ⟨g,0,none⟩) n cap)∧(L 5=true→u5=.int .i64 (a:Int))∧(L 6=true→u6=.int .i64 ((a:Int)+4))∧(L 7=true→u7=.int .i64 TB)∧(L 8=true→u8=.slice (some ⟨g,0,none⟩) n cap)∧(L 9=true→u9=.int .i64 (a:Int))∧(L 10=true→u10=.int .i64 ((a:Int)+8))∧(L 11=true→u11=.slice (some ⟨g,a+8,none⟩) (n - (a+8)) (cap - (a+8)))∧(L 12=true→u12=.pointer (some ⟨g,a+8,none⟩))∧(L 13=true→u13=.agg (Sha.arr 32 (Sha.vu8 S)))∧(L 14=true→u14=.agg (pV ⟨TA,TB,S⟩).toArray)∧(L 15=true→∃bk,u15=.pointer (some ⟨bk,0,none⟩)∧w0.heap.size≤bk∧w'.heap[bk]?=some (.cells (pV pz).toArray 24 (0,0)))∧Below w0.heap.size w0 w'
theorem tA{L:Nat→Bool}{i:Nat}{P:Nat→Prop}{u:Value}(h:L 15=true→∃bk,u=.pointer (some ⟨bk,0,none⟩)∧P bk)(h1:(15 == i)=false):(15 == i || L 15)=true→∃bk,u=.pointer (some ⟨bk,0,none⟩)∧P bk:=by
 rw[h1,Bool.false_or]
 exact h
theorem tK{L:Nat→Bool}{i k:Nat}{Q:Prop}(h:L k=true→Q)(h1:(k == i)=false):(k == i || L k)=true→Q:=by
 rw[h1,Bool.false_or]
 exact h
attribute [local go_sem] zvP
theorem take_any(w:World)(B:Nat)(ao:Option Addr)(n cap:Nat)(f:Nat→Int)(a:Int)(h:Wd.Own w B ao n cap f)(hf:∀i,i < n→0≤f i∧f i < 256)(hn:n≤140737488355328) :
  Calls Tryz.prog 99 #[.slice ao n cap,.int .i64 a] w fun e w'=>e=.returned (.tuple #[.agg (pV (tkV n a f)).toArray,.int .i64 (tkE n a f)])∧Below w.heap.size w w':=by
 obtain⟨W,hW,hb0,hx0,hs0⟩:∃W,W=w.alloc (.cells (pV pz).toArray 24)∧Below w.heap.size w W∧W.heap[w.heap.size]?=some (.cells (pV pz).toArray 24 (0,0))∧W.heap.size=w.heap.size+1:=⟨_,rfl,box_pt w pz⟩
 have hO0:Wd.Own W B ao n cap f:=h.below hb0
 have HW:=Lib.hid (fun W=>within_any ao n cap a W hn)
 have HV:Hid (tkV n a f=if withinB n a=true then if rightB (tkP n a f)=true then tkP n a f else pz else pz):=Lib.hid rfl
 have HE:Hid (tkE n a f=if withinB n a=true then if rightB (tkP n a f)=true then 0 else 15 else 1):=Lib.hid rfl
 generalize tkV n a f=V at HV ⊢
 generalize tkE n a f=E at HE ⊢
 cases hw:withinB n a with
 | false=>
  rw[hw] at HW HV HE
  clear hw hO0 hf h
  go_enter Tryz.func99,Tryz.ntmps99
  go_wp2_with fail
  rw[zrow,←hW]
  clear hW
  refine(HW.out W).mono ?_
  rintro _ w1 ⟨rfl,rfl⟩
  dsimp only
  go_wp2_with (first
   | (refine @wpList_buildG _ _ _ _ _ _ _ (by kernel_rfl) 24 #[] rfl (pV pz).toArray (by kernel_rfl) ?_; simp only[Act.put,aA])
   | (refine @wpList_store_row _ _ _ _ _ _ _ rfl 24 (.tmp 4) (.tmp 11) rfl w.heap.size (pV pz).toArray rfl rfl 24 _ hx0 (sizeP' _) rfl (pV_all _) ?_; simp only[Act.put]))
  have hr9:=setRow_heap W w.heap.size _ (pV pz).toArray 24 (0,0) hx0
  refine bodyPost_ret (rTp rfl rfl rfl hr9) rfl ?_
  exact⟨by rw[HV.out,HE.out]; rfl,hb0.trans ⟨rfl,rfl,rfl,by simp,fun k hk=>setRow_other W _ k _ (by omega)⟩⟩
 | true=>
  obtain⟨h0,h1⟩:=within_iff.1 hw
  obtain⟨a',rfl⟩:∃m:Nat,a=m:=⟨a.toNat,by omega⟩
  rw[hw] at HW HV HE
  rw[if_pos rfl] at HV HE
  obtain⟨g,rfl,hBg,hrow⟩:=h.row.resolve_left (by rintro⟨_,h0⟩; omega)
  have hgl:=hrow.lt
  have hcap:=h.room
  have HOW:=Lib.hid (fun w' (hb:Below W.heap.size W w')=>(hO0.below hb).reads)
  have HRW:=Lib.hid (fun w' (hb:Below W.heap.size W w')=>((hrow.block (hb0.block g hgl)).block (hb.block g (by omega))))
  have HF:=Lib.hid hf
  have hT:Hid (tkP n a' f=⟨sideT n a' f,sideT n ((a':Int)+4) f,fun i=>f (a'+8+i)⟩):=Lib.hid rfl
  clear hw hO0 hf h hrow
  go_enter Tryz.func99,Tryz.ntmps99
  go_wp2_with fail
  rw[zrow,←hW]
  clear hW
  refine(HW.out W).mono ?_
  rintro _ w1 ⟨rfl,rfl⟩
  dsimp only
  go_wp2_with fail
  have hcut:=fun W=>run_cut g n cap (a'+8) ((a':Int)+8) (by omega) (by omega) (by omega) hcap W
  have harr:=fun W=>run_arr (some ⟨g,a'+8,none⟩) (n - (a'+8)) (cap - (a'+8)) (by omega) W
  have HTA:=Lib.hid (fun w' (hb:Below W.heap.size W w')=>takeside_any w' (some ⟨g,0,none⟩) n cap f a' (HOW.out w' hb) HF.out hn)
  have HTB:=Lib.hid (fun w' (hb:Below W.heap.size W w')=>takeside_any w' (some ⟨g,0,none⟩) n cap f ((a':Int)+4) (HOW.out w' hb) HF.out hn)
  have HSR:=Lib.hid (fun w' (hb:Below W.heap.size W w')=>rowSum (a:=a') (HRW.out w' hb) (by omega))
  generalize hS:(fun i=>f (a'+8+i))=S at *
  generalize sideT n a' f=TA at *
  generalize sideT n ((a':Int)+4) f=TB at *
  clear hS HOW HRW HF
  refine QuietTail2.regionInv (n:=16) (Inv:=TkInv _ _ _ _ _ _ _ _ _ _ _ _ _ _ g n cap a' TA TB S W) (by kernel_rfl) (by decide) (by kernel_rfl) ⟨_,_,_,_,_,_,_,_,_,_,_,_,_,_,_,_,rfl,by simp,by simp,by simp,by simp,by simp,by simp,by simp,by simp,by simp,by simp,by simp,by simp,by simp,by simp,by simp,by simp,⟨rfl,rfl,rfl,Nat.le_refl _,fun _ _=>rfl⟩⟩ ?step ?fin
  case step=>
   rintro i o hi ho L a' w' ⟨u0,u1,u2,u3,u4,u5,u6,u7,u8,u9,u10,u11,u12,u13,u14,u15,rfl,i0,i1,i2,i3,i4,i5,i6,i7,i8,i9,i10,i11,i12,i13,i14,ia,iB⟩ hL hpre
   match i,hi with
   | 0,_=>
    simp at ho
    subst ho
    go_simp
    exact⟨_,u1,u2,u3,u4,u5,u6,u7,u8,u9,u10,u11,u12,u13,u14,u15,rfl,fun _=>rfl,tK i1 rfl,tK i2 rfl,tK i3 rfl,tK i4 rfl,tK i5 rfl,tK i6 rfl,tK i7 rfl,tK i8 rfl,tK i9 rfl,tK i10 rfl,tK i11 rfl,tK i12 rfl,tK i13 rfl,tK i14 rfl,tA ia rfl,iB⟩
   | 1,_=>
    simp at ho
    subst ho
    go_simp
    exact⟨u0,_,u2,u3,u4,u5,u6,u7,u8,u9,u10,u11,u12,u13,u14,u15,rfl,tK i0 rfl,fun _=>rfl,tK i2 rfl,tK i3 rfl,tK i4 rfl,tK i5 rfl,tK i6 rfl,tK i7 rfl,tK i8 rfl,tK i9 rfl,tK i10 rfl,tK i11 rfl,tK i12 rfl,tK i13 rfl,tK i14 rfl,tA ia rfl,iB⟩
   | 2,_=>
    simp at ho
    subst ho
    obtain rfl:=i1 (hpre 1 (by kernel_rfl))
    have k0:IntKind.i64.wrap (a':Int)=a':=IntWalk.i64_in _ (by omega)
    go_simp
    exact⟨u0,_,_,u3,u4,u5,u6,u7,u8,u9,u10,u11,u12,u13,u14,u15,rfl,tK i0 rfl,tK i1 rfl,fun _=>rfl,tK i3 rfl,tK i4 rfl,tK i5 rfl,tK i6 rfl,tK i7 rfl,tK i8 rfl,tK i9 rfl,tK i10 rfl,tK i11 rfl,tK i12 rfl,tK i13 rfl,tK i14 rfl,tA ia rfl,iB⟩
   | 3,_=>
    simp at ho
    subst ho
    obtain rfl:=i0 (hpre 0 (by kernel_rfl))
    obtain rfl:=i2 (hpre 2 (by kernel_rfl))
    go_simp
    refine(HTA.out w' iB).mono ?_
    rintro _ w'' ⟨rfl,rfl⟩
    exact⟨_,u1,_,_,u4,u5,u6,u7,u8,u9,u10,u11,u12,u13,u14,u15,rfl,tK i0 rfl,tK i1 rfl,tK i2 rfl,fun _=>rfl,tK i4 rfl,tK i5 rfl,tK i6 rfl,tK i7 rfl,tK i8 rfl,tK i9 rfl,tK i10 rfl,tK i11 rfl,tK i12 rfl,tK i13 rfl,tK i14 rfl,tA ia rfl,iB⟩
   | 4,_=>
    simp at ho
    subst ho
    go_simp
    exact⟨u0,u1,u2,u3,_,u5,u6,u7,u8,u9,u10,u11,u12,u13,u14,u15,rfl,tK i0 rfl,tK i1 rfl,tK i2 rfl,tK i3 rfl,fun _=>rfl,tK i5 rfl,tK i6 rfl,tK i7 rfl,tK i8 rfl,tK i9 rfl,tK i10 rfl,tK i11 rfl,tK i12 rfl,tK i13 rfl,tK i14 rfl,tA ia rfl,iB⟩
   | 5,_=>
    simp at ho
    subst ho
    go_simp
    exact⟨u0,u1,u2,u3,u4,_,u6,u7,u8,u9,u10,u11,u12,u13,u14,u15,rfl,tK i0 rfl,tK i1 rfl,tK i2 rfl,tK i3 rfl,tK i4 rfl,fun _=>rfl,tK i6 rfl,tK i7 rfl,tK i8 rfl,tK i9 rfl,tK i10 rfl,tK i11 rfl,tK i12 rfl,tK i13 rfl,tK i14 rfl,tA ia rfl,iB⟩
   | 6,_=>
    simp at ho
    subst ho
    obtain rfl:=i5 (hpre 5 (by kernel_rfl))
    have k0:IntKind.i64.wrap ((a':Int)+4)=a'+4:=IntWalk.i64_in _ (by omega)
    go_simp
    exact⟨u0,u1,u2,u3,u4,_,_,u7,u8,u9,u10,u11,u12,u13,u14,u15,rfl,tK i0 rfl,tK i1 rfl,tK i2 rfl,tK i3 rfl,tK i4 rfl,tK i5 rfl,fun _=>rfl,tK i7 rfl,tK i8 rfl,tK i9 rfl,tK i10 rfl,tK i11 rfl,tK i12 rfl,tK i13 rfl,tK i14 rfl,tA ia rfl,iB⟩
   | 7,_=>
    simp at ho
    subst ho
    obtain rfl:=i4 (hpre 4 (by kernel_rfl))
    obtain rfl:=i6 (hpre 6 (by kernel_rfl))
    go_simp
    refine(HTB.out w' iB).mono ?_
    rintro _ w'' ⟨rfl,rfl⟩
    exact⟨u0,u1,u2,u3,_,u5,_,_,u8,u9,u10,u11,u12,u13,u14,u15,rfl,tK i0 rfl,tK i1 rfl,tK i2 rfl,tK i3 rfl,tK i4 rfl,tK i5 rfl,tK i6 rfl,fun _=>rfl,tK i8 rfl,tK i9 rfl,tK i10 rfl,tK i11 rfl,tK i12 rfl,tK i13 rfl,tK i14 rfl,tA ia rfl,iB⟩
   | 8,_=>
    simp at ho
    subst ho
    go_simp
    exact⟨u0,u1,u2,u3,u4,u5,u6,u7,_,u9,u10,u11,u12,u13,u14,u15,rfl,tK i0 rfl,tK i1 rfl,tK i2 rfl,tK i3 rfl,tK i4 rfl,tK i5 rfl,tK i6 rfl,tK i7 rfl,fun _=>rfl,tK i9 rfl,tK i10 rfl,tK i11 rfl,tK i12 rfl,tK i13 rfl,tK i14 rfl,tA ia rfl,iB⟩
   | 9,_=>
    simp at ho
    subst ho
    go_simp
    exact⟨u0,u1,u2,u3,u4,u5,u6,u7,u8,_,u10,u11,u12,u13,u14,u15,rfl,tK i0 rfl,tK i1 rfl,tK i2 rfl,tK i3 rfl,tK i4 rfl,tK i5 rfl,tK i6 rfl,tK i7 rfl,tK i8 rfl,fun _=>rfl,tK i10 rfl,tK i11 rfl,tK i12 rfl,tK i13 rfl,tK i14 rfl,tA ia rfl,iB⟩
   | 10,_=>
    simp at ho
    subst ho
    obtain rfl:=i9 (hpre 9 (by kernel_rfl))
    have k0:IntKind.i64.wrap ((a':Int)+8)=a'+8:=IntWalk.i64_in _ (by omega)
    go_simp
    exact⟨u0,u1,u2,u3,u4,u5,u6,u7,u8,_,_,u11,u12,u13,u14,u15,rfl,tK i0 rfl,tK i1 rfl,tK i2 rfl,tK i3 rfl,tK i4 rfl,tK i5 rfl,tK i6 rfl,tK i7 rfl,tK i8 rfl,tK i9 rfl,fun _=>rfl,tK i11 rfl,tK i12 rfl,tK i13 rfl,tK i14 rfl,tA ia rfl,iB⟩
   | 11,_=>
    simp at ho
    subst ho
    obtain rfl:=i8 (hpre 8 (by kernel_rfl))
    obtain rfl:=i10 (hpre 10 (by kernel_rfl))
    have k0:=hcut w'
    go_simp
    exact⟨u0,u1,u2,u3,u4,u5,u6,u7,_,u9,_,_,u12,u13,u14,u15,rfl,tK i0 rfl,tK i1 rfl,tK i2 rfl,tK i3 rfl,tK i4 rfl,tK i5 rfl,tK i6 rfl,tK i7 rfl,tK i8 rfl,tK i9 rfl,tK i10 rfl,fun _=>rfl,tK i12 rfl,tK i13 rfl,tK i14 rfl,tA ia rfl,iB⟩
   | 12,_=>
    simp at ho
    subst ho
    obtain rfl:=i11 (hpre 11 (by kernel_rfl))
    have k0:=harr w'
    go_simp
    exact⟨u0,u1,u2,u3,u4,u5,u6,u7,u8,u9,u10,_,_,u13,u14,u15,rfl,tK i0 rfl,tK i1 rfl,tK i2 rfl,tK i3 rfl,tK i4 rfl,tK i5 rfl,tK i6 rfl,tK i7 rfl,tK i8 rfl,tK i9 rfl,tK i10 rfl,tK i11 rfl,fun _=>rfl,tK i13 rfl,tK i14 rfl,tA ia rfl,iB⟩
   | 13,_=>
    simp at ho
    subst ho
    obtain rfl:=i12 (hpre 12 (by kernel_rfl))
    refine wp_load_mid 22 (.tmp 24) rfl g (a'+8) rfl (Sha.arr 32 (Sha.vu8 S)).toList _ (HSR.out w' iB) undS rfl (sizeS S) ?_
    simp only[Act.put,aA,Array.toArray_toList]
    exact⟨u0,u1,u2,u3,u4,u5,u6,u7,u8,u9,u10,u11,_,_,u14,u15,rfl,tK i0 rfl,tK i1 rfl,tK i2 rfl,tK i3 rfl,tK i4 rfl,tK i5 rfl,tK i6 rfl,tK i7 rfl,tK i8 rfl,tK i9 rfl,tK i10 rfl,tK i11 rfl,tK i12 rfl,fun _=>rfl,tK i14 rfl,tA ia rfl,iB⟩
   | 14,_=>
    simp at ho
    subst ho
    obtain rfl:=i3 (hpre 3 (by kernel_rfl))
    obtain rfl:=i7 (hpre 7 (by kernel_rfl))
    obtain rfl:=i13 (hpre 13 (by kernel_rfl))
    refine wp_buildV 24 #[(0,.tmp 15),(1,.tmp 19),(2,.tmp 25)] rfl (pV ⟨TA,TB,S⟩).toArray (by kernel_rfl) ?_
    simp only[Act.put,aA]
    exact⟨u0,u1,u2,_,u4,u5,u6,_,u8,u9,u10,u11,u12,_,_,u15,rfl,tK i0 rfl,tK i1 rfl,tK i2 rfl,tK i3 rfl,tK i4 rfl,tK i5 rfl,tK i6 rfl,tK i7 rfl,tK i8 rfl,tK i9 rfl,tK i10 rfl,tK i11 rfl,tK i12 rfl,tK i13 rfl,fun _=>rfl,tA ia rfl,iB⟩
   | 15,_=>
    simp at ho
    subst ho
    have hn:=heap_alloc_new w' (.cells (pV pz).toArray 24)
    go_simp
    rw[zrow]
    exact⟨u0,u1,u2,u3,u4,u5,u6,u7,u8,u9,u10,u11,u12,u13,u14,_,rfl,tK i0 rfl,tK i1 rfl,tK i2 rfl,tK i3 rfl,tK i4 rfl,tK i5 rfl,tK i6 rfl,tK i7 rfl,tK i8 rfl,tK i9 rfl,tK i10 rfl,tK i11 rfl,tK i12 rfl,tK i13 rfl,tK i14 rfl,fun _=>⟨_,rfl,iB.size,hn⟩,iB.alloc iB.size _⟩
   | i+16,h=>omega
  case fin=>
   rintro L a' w5 hall ⟨u0,u1,u2,u3,u4,u5,u6,u7,u8,u9,u10,u11,u12,u13,u14,u15,rfl,i0,i1,i2,i3,i4,i5,i6,i7,i8,i9,i10,i11,i12,i13,i14,ia,iB⟩
   obtain rfl:=i0 (hall 0 (by omega))
   obtain rfl:=i1 (hall 1 (by omega))
   obtain rfl:=i2 (hall 2 (by omega))
   obtain rfl:=i3 (hall 3 (by omega))
   obtain rfl:=i4 (hall 4 (by omega))
   obtain rfl:=i5 (hall 5 (by omega))
   obtain rfl:=i6 (hall 6 (by omega))
   obtain rfl:=i7 (hall 7 (by omega))
   obtain rfl:=i8 (hall 8 (by omega))
   obtain rfl:=i9 (hall 9 (by omega))
   obtain rfl:=i10 (hall 10 (by omega))
   obtain rfl:=i11 (hall 11 (by omega))
   obtain rfl:=i12 (hall 12 (by omega))
   obtain rfl:=i13 (hall 13 (by omega))
   obtain rfl:=i14 (hall 14 (by omega))
   obtain⟨bk,rfl,hbk,hbz⟩:=ia (hall 15 (by omega))
   clear i0 i1 i2 i3 i4 i5 i6 i7 i8 i9 i10 i11 i12 i13 i14 ia hall
   simp only[List.drop_succ_cons,List.drop_zero]
   have hR6:=setRow_heap w5 bk _ (pV ⟨TA,TB,S⟩).toArray 24 (0,0) hbz
   have hb6:Below W.heap.size W (w5.setRow bk (pV ⟨TA,TB,S⟩).toArray):=iB.trans ⟨rfl,rfl,rfl,by simp[World.setRow],fun k hk=>setRow_other w5 bk k _ (by omega)⟩
   refine @wpList_store_row _ _ _ _ _ _ _ rfl 24 (.tmp 6) (.tmp 26) rfl bk (pV ⟨TA,TB,S⟩).toArray rfl rfl 24 _ hbz (sizeP' _) rfl (pV_all _) ?_
   simp only[Act.put]
   generalize w5.setRow bk (pV ⟨TA,TB,S⟩).toArray=w6 at hR6 hb6 ⊢
   refine wpList_nil ?_
   clear hbz iB hcut harr HTA HTB HSR
   have hx6:=(hb6.block w.heap.size (by omega)).trans hx0
   have hB6:=hb0.trans (hb6.mono (by omega))
   have hs6:=hb6.size
   have hbl:bk < w6.heap.size:=(Array.getElem?_eq_some_iff.1 hR6).1
   have HV2:=HV.out
   have HE2:=HE.out
   rw[hT.out] at HV2 HE2
   have HV3:=Lib.hid HV2
   have HE3:=Lib.hid HE2
   have HR:=Lib.hid (fun W=>right_any ⟨TA,TB,S⟩ W)
   clear HV2 HE2 HV HE hT
   generalize rightB ⟨TA,TB,S⟩=r at *
   go_wp2_with (refine @wG _ _ _ _ _ _ _ (by kernel_rfl) 24 (.tmp 6) rfl bk 0 rfl (pV ⟨TA,TB,S⟩) _ (rP hR6) undP rfl (sizeP _) ?_; simp only[Act.put,aA])
   refine(HR.out w6).mono ?_
   rintro _ w7 ⟨rfl,hb7⟩
   have hx7:=(hb7.block w.heap.size (by omega)).trans hx6
   have hR7:=(hb7.block bk (by omega)).trans hR6
   have hB7:=hB6.trans (hb7.mono (by omega))
   clear hx6 hR6 hb7 HR hb6
   dsimp only
   cases r with
   | false=>
    go_wp2_with (first
     | (refine @wpList_buildG _ _ _ _ _ _ _ (by kernel_rfl) 24 #[] rfl (pV pz).toArray (by kernel_rfl) ?_; simp only[Act.put,aA])
     | (refine @wpList_store_row _ _ _ _ _ _ _ rfl 24 (.tmp 4) (.tmp 30) rfl w.heap.size (pV pz).toArray rfl rfl 24 _ hx7 (sizeP' _) rfl (pV_all _) ?_; simp only[Act.put]))
    have hr9:=setRow_heap w7 w.heap.size _ (pV pz).toArray 24 (0,0) hx7
    refine bodyPost_ret (rTp rfl rfl rfl hr9) rfl ?_
    exact⟨by rw[HV3.out,HE3.out]; rfl,hB7.trans ⟨rfl,rfl,rfl,by simp,fun k hk=>setRow_other w7 _ k _ (by omega)⟩⟩
   | true=>
    go_wp2_with (first
     | (refine @wG _ _ _ _ _ _ _ (by kernel_rfl) 24 (.tmp 6) rfl bk 0 rfl (pV ⟨TA,TB,S⟩) _ (rP hR7) undP rfl (sizeP _) ?_; simp only[Act.put,aA])
     | (refine @wpList_store_row _ _ _ _ _ _ _ rfl 24 (.tmp 4) (.tmp 31) rfl w.heap.size (pV ⟨TA,TB,S⟩).toArray rfl rfl 24 _ hx7 (sizeP' _) rfl (pV_all _) ?_; simp only[Act.put]))
    have hr9:=setRow_heap w7 w.heap.size _ (pV ⟨TA,TB,S⟩).toArray 24 (0,0) hx7
    refine bodyPost_ret (rTp rfl rfl rfl hr9) rfl ?_
    exact⟨by rw[HV3.out,HE3.out]; rfl,hB7.trans ⟨rfl,rfl,rfl,by simp,fun k hk=>setRow_other w7 _ k _ (by omega)⟩⟩
end Pt
namespace Pt
open Go.RowKit Dk Eqb Byt
def f3(P:Nat→Pn):List Value:=flat (fun i=>pV (P i)) 3
theorem f3_length(P:Nat→Pn):(f3 P).length=102:=by
 have:=flat_length (T:=fun i=>pV (P i)) (k:=34) (n:=3) (fun i _=>pL _)
 exact this
theorem f3_one(P:Nat→Pn):∀u ∈ f3 P,u.oneCell'=true:=flat_one fun _i _=>pV_one _
theorem f3_all(P:Nat→Pn):(f3 P).toArray.all (·.oneCell')=true:=all_oneCell_toArray (f3_one P)
theorem f3_congr{P Q:Nat→Pn}(h:∀i,i < 3→pV (P i)=pV (Q i)):f3 P=f3 Q:=flat_congr h
theorem und3:Tryz.prog.underlying 83=some (.array 3 24):=by kernel_rfl
theorem size3(P:Nat→Pn):(Tryz.prog.info? 83).map (·.size)=some (f3 P).length:=by rw[f3_length]; kernel_rfl
theorem size3'(P:Nat→Pn):(Tryz.prog.info? 83).map (·.size)=some (f3 P).toArray.size:=by rw[List.size_toArray]; exact size3 P
theorem guard3:Tryz.prog.eqGuardType Tryz.prog.depth 83=false:=by kernel_rfl
def zP:Nat→Pn:=fun _=>pz
theorem zv3(w:World):(zeroValue 83).run Tryz.prog w=.ok (.agg (f3 zP).toArray) w:=(zero_of_info (P:=Tryz.prog) (t:=83) (v:=.agg (f3 zP).toArray) (n:=102) (by kernel_rfl)).1 w
theorem zc3:Tryz.zeroCells83=(f3 zP).toArray:=by kernel_rfl
theorem f3_at(P:Nat→Pn){i:Nat}(hi:i < 3){r:Nat}{v:Value}(hv:(pV (P i))[r]?=some v):(f3 P)[34 * i+r]?=some v:=by
 rw[Nat.mul_comm]
 exact flat_get (T:=fun i=>pV (P i)) (fun i _=>pL _) hi hv
structure R3(w:World)(b:Nat)(Q:Nat→Pn):Prop where
 th:w.there b 0 102
 rg:∀i,i < 3→w.rangeAt b (34 * i) (pV (Q i))
theorem R3.new{w:World}{b:Nat}{Q:Nat→Pn}{t:TypeId}(h:w.heap[b]?=some (.cells (f3 Q).toArray t (0,0))):R3 w b Q:=
 ⟨fun j hj=>by
  rw[cell_of_row w b _ _ _ _ h,Nat.zero_add]
  refine⟨?_,frozen_of_row w b _ _ _ h⟩
  have:j < (f3 Q).length:=by rw[f3_length]; exact hj
  simp[this],
  fun i hi j v hv=>by
  rw[cell_of_row w b _ _ _ _ h]
  simpa using f3_at Q hi hv⟩
theorem R3.lt{w:World}{b:Nat}{Q:Nat→Pn}(h:R3 w b Q):b < w.heap.size:=by
 obtain⟨v,hv⟩:=Option.isSome_iff_exists.1 (h.th 0 (by omega)).1
 exact World.block_lt_of_cell? w _ hv
theorem R3.keep{w w':World}{b:Nat}{Q:Nat→Pn}(h:R3 w b Q)(hb:w'.heap[b]?=w.heap[b]?):R3 w' b Q:=
 ⟨fun j hj=>⟨by rw[World.cell?_of_block (w:=w) hb]; exact(h.th j hj).1,by
  have:=(h.th j hj).2
  unfold World.frozen? at this ⊢
  simp only[hb]
  exact this⟩,
  fun i hi j v hv=>(World.cell?_of_block (w:=w) hb).trans (h.rg i hi j v hv)⟩
def upd(Q:Nat→Pn)(j:Nat)(p:Pn)(i:Nat):Pn:=if i=j then p else Q i
theorem R3.store{w:World}{b:Nat}{Q:Nat→Pn}(h:R3 w b Q){j:Nat}(hj:j < 3)(p:Pn):R3 (w.setCells b (34 * j) (pV p)) b (upd Q j p):=
 ⟨World.there_setCells h.th _ _ _,fun i hi=>by
  unfold upd
  by_cases e:i=j
  ·subst e
   rw[if_pos rfl]
   refine World.rangeAt_setCells_same w b _ _ fun k hk=>?_
   rw[pL] at hk
   have:=h.th (34 * i+k) (by omega)
   rwa [Nat.zero_add] at this
  ·rw[if_neg e]
   refine World.rangeAt_setCells_apart (h.rg i hi) b _ _ (.inr ?_)
   rw[pL,pL]
   omega⟩
theorem R3.at{w:World}{b:Nat}{Q:Nat→Pn}(h:R3 w b Q){j:Nat}(hj:j < 3):w.there b (34 * j) 34:=fun k hk=>by
 have:=h.th (34 * j+k) (by omega)
 rwa [Nat.zero_add] at this
theorem R3.all{w:World}{b:Nat}{Q:Nat→Pn}(h:R3 w b Q):w.rangeAt b 0 (f3 Q):=fun j v hv=>by
 obtain⟨i,r,hi,hr,rfl,hv'⟩:=flat_inv (T:=fun i=>pV (Q i)) (k:=34) (fun i _=>pL _) hv
 have:=h.rg i hi r v hv'
 rw[Nat.zero_add,Nat.mul_comm]
 exact this
theorem below_cells{B g:Nat}(hg:B≤g):∀(vs:List Value) (o:Nat) {a w:World},Below B a w→Below B a (w.setCells g o vs)
 | [],_,_,_,h=>h
 | _ :: r,o,_,_,h=>below_cells hg r (o+1) (h.setCell hg _)
theorem other_cells{g k:Nat}(hk:k≠g):∀(vs:List Value) (o:Nat) (w:World),(w.setCells g o vs).heap[k]?=w.heap[k]?
 | [],_,_=>rfl
 | _ :: r,o,_w=>(other_cells hk r (o+1) _).trans (Below.heap_setCell _ _ _ _ hk)
end Pt
namespace Pt
open Go.RowKit Dk Eqb Byt
def tI(D:Nat→Int)(i:Nat):Pn:=tkP 128 (40 * (i:Int)) D
theorem tk_yes{D:Nat→Int}{i:Nat}(hi:i < 3)(h:rightB (tI D i)=true):tkV 128 (40 * (i:Int)) D=tI D i∧tkE 128 (40 * (i:Int)) D=0:=by
 have hw:withinB 128 (40 * (i:Int))=true:=within_iff.2 (by omega)
 unfold tI at *
 unfold tkV tkE
 rw[if_pos hw,if_pos h,if_pos hw,if_pos h]
 exact⟨rfl,rfl⟩
theorem tk_no{D:Nat→Int}{i:Nat}(hi:i < 3)(h:rightB (tI D i)=false):tkV 128 (40 * (i:Int)) D=pz∧tkE 128 (40 * (i:Int)) D=15:=by
 have hw:withinB 128 (40 * (i:Int))=true:=within_iff.2 (by omega)
 unfold tI at *
 unfold tkV tkE
 rw[if_pos hw,if_neg (by rw[h]; simp),if_pos hw,if_neg (by rw[h]; simp)]
 exact⟨rfl,rfl⟩
def zt(D:Nat→Int):Bool:=Wd.zeroB (fun i=>D (120+i)) 8
def paOk(D:Nat→Int):Prop:=(∀i,i < 3→rightB (tI D i)=true)∧zt D=true
instance (D:Nat→Int):Decidable (paOk D):=by unfold paOk; infer_instance
def paV(D:Nat→Int)(i:Nat):Pn:=if paOk D then tI D i else pz
def paE(D:Nat→Int):Int:=if paOk D then 0 else 15
theorem pa_no{D:Nat→Int}(h:¬ paOk D):f3 (paV D)=f3 zP∧paE D=15:=⟨f3_congr fun i _=>by unfold paV zP; rw[if_neg h],by unfold paE; rw[if_neg h]⟩
theorem pa_yes{D:Nat→Int}(h:paOk D):f3 (paV D)=f3 (tI D)∧paE D=0:=⟨f3_congr fun i _=>by unfold paV; rw[if_pos h],by unfold paE; rw[if_pos h]⟩
def pj(D:Nat→Int)(j i:Nat):Pn:=if i < j then tI D i else pz
theorem pj_zero(D:Nat→Int):pj D 0=zP:=by funext i; unfold pj zP; rw[if_neg (by omega)]
theorem pj_next(D:Nat→Int)(j:Nat):upd (pj D j) j (tI D j)=pj D (j+1):=by
 funext i
 unfold upd pj
 by_cases e:i=j
 ·subst e; rw[if_pos rfl,if_pos (by omega)]
 ·rw[if_neg e]
  by_cases h:i < j
  ·rw[if_pos h,if_pos (by omega)]
  ·rw[if_neg h,if_neg (by omega)]
theorem results_3p{tmps:Array Value}{w:World}{B:Nat}{Q:Nat→Pn}{e:Int}{fn:Func}{s r:Nat}(hf:fn.results=#[.cell s 83,.tmp r])(h4:tmps.getD s undef=.pointer (some ⟨B,0,none⟩))(h5:tmps.getD r undef=.int .i64 e)
  (kV:w.heap[B]?=some (.cells (f3 Q).toArray 83 (0,0))):(results fn tmps).run Tryz.prog w=.ok (.tuple #[.agg (f3 Q).toArray,.int .i64 e]) w:=by
 have h4':tmps[s]?.getD undef=.pointer (some ⟨B,0,none⟩):=by simpa using h4
 have h5':tmps[r]?.getD undef=.int .i64 e:=by simpa using h5
 have hv:=run_loadVar_row (P:=Tryz.prog) w B 83 83 (f3 Q).toArray (0,0) _ kV und3 rfl (size3' Q)
 simp[results,hf,h4',h5',asAddr,hv]
attribute [local go_sem] zvP zv3
attribute [local go_sem] zc3
theorem parts_any(D:Nat→Int)(w:World)(hD:Bytes D) :
  Calls Tryz.prog 73 #[.agg (bl D).toArray] w fun e w'=>e=.returned (.tuple #[.agg (f3 (paV D)).toArray,.int .i64 (paE D)])∧Below w.heap.size w w':=by
 obtain⟨W,hW,hB0,hr0,hx0,hy0,hs0⟩:∃W,W=((w.alloc (.cells (bl D).toArray 47)).alloc (.cells (f3 zP).toArray 83)).alloc (.cells (f3 zP).toArray 83)∧Below w.heap.size w W∧Row W w.heap.size 0 128 D∧W.heap[w.heap.size+1]?=some (.cells (f3 zP).toArray 83 (0,0))∧R3 W (w.heap.size+2) zP∧W.heap.size=w.heap.size+3:=by
  refine⟨_,rfl,(((Below.refl _ _).alloc (Nat.le_refl _) _).alloc (by simp) _).alloc (by simp; omega) _,row_of (t:=47) ((Below.heap_alloc _ _ _ (by simp; omega)).trans ((Below.heap_alloc _ _ _ (by simp)).trans (heap_alloc_new w _))),(Below.heap_alloc _ _ _ (by simp)).trans ?_,R3.new (t:=83) ?_,by simp⟩
  ·have:=heap_alloc_new (w.alloc (.cells (bl D).toArray 47)) (.cells (f3 zP).toArray 83)
   rwa [World.size_alloc] at this
  ·have:=heap_alloc_new ((w.alloc (.cells (bl D).toArray 47)).alloc (.cells (f3 zP).toArray 83)) (.cells (f3 zP).toArray 83)
   rwa [World.size_alloc,World.size_alloc] at this
 have HTK:=Lib.hid (fun(wr:World) (j:Nat) (hj:j < 3) (hb:Row wr w.heap.size 0 128 D)=>take_any wr 0 (some ⟨w.heap.size,0,none⟩) 128 128 D (40 * (j:Int)) ⟨Nat.le_refl _,(fun e=>by cases e),.inr ⟨_,rfl,Nat.zero_le _,hb⟩⟩ hD (by omega))
 have HYES:=Lib.hid (fun j (hj:j < 3) (h:rightB (tI D j)=true)=>tk_yes hj h)
 have HNO:=Lib.hid (fun j (hj:j < 3) (h:rightB (tI D j)=false)=>tk_no hj h)
 have HPN:=Lib.hid (fun(h:¬ paOk D)=>pa_no h)
 have HPY:=Lib.hid (fun(h:paOk D)=>pa_yes h)
 have HZ:=Lib.hid (fun(wr:World) (hb:Row wr w.heap.size 0 128 D)=>Wd.zero_any (some ⟨w.heap.size,120,none⟩) 8 8 (fun i=>D (120+i)) wr ⟨Nat.le_refl _,(fun e=>by cases e),.inr ⟨_,_,rfl,fun i hi=>by have:=hb.cell (j:=120+i) (by omega); rwa [Nat.zero_add] at this⟩⟩ (by omega))
 rw[show Wd.zeroB (fun i=>D (120+i)) 8=zt D from rfl] at HZ
 clear hD
 go_enter Tryz.func73,Tryz.ntmps73
 go_wp2_with fail
 rw[←hW]
 clear hW
 have HI:Hid (Below w.heap.size w W∧Row W w.heap.size 0 128 D∧W.heap[w.heap.size+1]?=some (.cells (f3 zP).toArray 83 (0,0))∧R3 W (w.heap.size+2) (pj D 0)∧∀i,i < 0→rightB (tI D i)=true):=Lib.hid ⟨hB0,hr0,hx0,by rw[pj_zero]; exact hy0,fun i hi=>by omega⟩
 clear hB0 hr0 hx0 hy0
 go_loopw [8] (fun i wr=>∃j:Nat,j≤3∧i=.int .i64 j∧Hid (Below w.heap.size w wr∧Row wr w.heap.size 0 128 D∧wr.heap[w.heap.size+1]?=some (.cells (f3 zP).toArray 83 (0,0))∧R3 wr (w.heap.size+2) (pj D j)∧∀i,i < j→rightB (tI D i)=true)) (fun i _=>3 - (intOf i).toNat)
 case atStart=>exact⟨0,by omega,rfl,HI⟩
 case round=>
  clear HI
  obtain⟨j,hj,rfl,hR⟩:=hrel
  obtain⟨hB,hr,hx,hy,hok⟩:=hR.out
  by_cases hj2:j < 3
  ·have hj0:(0:Int)≤(j:Int):=by omega
   have HT:=HTK.out wr j hj2 hr
   have HOK:=Lib.hid hok
   have HY:=Lib.hid hy
   have hyl:=hy.lt
   clear hok hR hy
   cases hrj:rightB (tI D j) with
   | false=>
    have hno:=HNO.out j hj2 hrj
    rw[hno.1,hno.2] at HT
    have hnp:¬ paOk D:=fun h=>by have:=h.1 j hj2; rw[hrj] at this; cases this
    have HP:=Lib.hid (HPN.out hnp)
    have HT':=Lib.hid HT
    clear HT hno hrj HYES HNO HTK HPN HPY HZ hnp HOK HY
    go_wp2_with fail
    refine HT'.out.mono ?_
    rintro _ w1 ⟨rfl,hb1⟩
    have hx1:=(hb1.block (w.heap.size+1) (by omega)).trans hx
    have hB1:=hB.trans (hb1.mono hB.size)
    have hb2:Below w1.heap.size w1 (w1.alloc (.cells (pV pz).toArray 24)):=(Below.refl _ _).alloc (Nat.le_refl _) _
    have hx2:=(hb2.block (w.heap.size+1) (by have:=hb1.size; omega)).trans hx1
    have hB2:=hB1.trans (hb2.mono hB1.size)
    clear hx hB hr hb1 hx1 HT'
    dsimp only
    go_wp2_with (first
     | (refine @wpList_store_row _ _ _ _ _ _ _ rfl 24 (.tmp 6) (.tmp 16) rfl w1.heap.size (pV pz).toArray rfl rfl 24 _ (heap_alloc_new w1 _) (sizeP' _) rfl (pV_all _) ?_; rw[World.setRow_alloc_new]; simp only[Act.put])
     | (refine @wpList_buildG _ _ _ _ _ _ _ (by kernel_rfl) 83 #[] rfl (f3 zP).toArray (by kernel_rfl) ?_; simp only[Act.put,aA])
     | (refine @wpList_store_row _ _ _ _ _ _ _ rfl 83 (.tmp 2) (.tmp 20) rfl (w.heap.size+1) (f3 zP).toArray rfl rfl 83 _ hx2 (size3' _) rfl (f3_all _) ?_; simp only[Act.put]))
    have hr9:=setRow_heap _ (w.heap.size+1) _ (f3 zP).toArray 83 (0,0) hx2
    refine bodyPost_ret (results_3p rfl rfl rfl hr9) rfl ?_
    exact⟨by rw[HP.out.1,HP.out.2],hB2.trans ⟨rfl,rfl,rfl,by simp,fun k hk=>setRow_other _ _ k _ (by omega)⟩⟩
   | true=>
    have hyes:=HYES.out j hj2 hrj
    rw[hyes.1,hyes.2] at HT
    have HOK2:Hid (∀i,i < j+1→rightB (tI D i)=true):=Lib.hid (fun i hi=>by
     by_cases e:i=j
     ·subst e; exact hrj
     ·exact HOK.out i (by omega))
    have HPJ:=Lib.hid (pj_next D j)
    have HT':=Lib.hid HT
    clear HT hyes hrj HOK
    generalize tI D j=p at HT' HPJ
    go_wp2_with fail
    refine HT'.out.mono ?_
    rintro _ w1 ⟨rfl,hb1⟩
    have hs1:=hb1.size
    have hB1:=hB.trans (hb1.mono hB.size)
    have hb2:Below w1.heap.size w1 (w1.alloc (.cells (pV p).toArray 24)):=(Below.refl _ _).alloc (Nat.le_refl _) _
    have hp2:(w1.alloc (.cells (pV p).toArray 24)).heap[w1.heap.size]?=some (.cells (pV p).toArray 24 (0,0)):=heap_alloc_new _ _
    have hx2:=(hb2.block (w.heap.size+1) (by omega)).trans ((hb1.block (w.heap.size+1) (by omega)).trans hx)
    have hr2:=(hr.block (hb1.block w.heap.size (by omega))).block (hb2.block w.heap.size (by omega))
    have hy2:=(HY.out.keep (hb1.block (w.heap.size+2) hyl)).keep (hb2.block (w.heap.size+2) (by omega))
    have hB2:=hB1.trans (hb2.mono hB1.size)
    have HN:Hid (Below w.heap.size w ((w1.alloc (.cells (pV p).toArray 24)).setCells (w.heap.size+2) (34 * j) (pV p))∧Row ((w1.alloc (.cells (pV p).toArray 24)).setCells (w.heap.size+2) (34 * j) (pV p)) w.heap.size 0 128 D∧((w1.alloc (.cells (pV p).toArray 24)).setCells (w.heap.size+2) (34 * j) (pV p)).heap[w.heap.size+1]?=some (.cells (f3 zP).toArray 83 (0,0))∧R3 ((w1.alloc (.cells (pV p).toArray 24)).setCells (w.heap.size+2) (34 * j) (pV p)) (w.heap.size+2) (pj D (j+1))∧∀i,i < j+1→rightB (tI D i)=true):=Lib.hid ⟨below_cells (by omega) _ _ hB2,hr2.block (other_cells (by omega) _ _ _),(other_cells (by omega) _ _ _).trans hx2,by rw[←HPJ.out]; exact hy2.store hj2 p,HOK2.out⟩
    have hth:=hy2.at hj2
    clear hx hB hr hb1 hx2 hr2 hb2 hB2 hB1 HT' HY hy2 HOK2 HPJ
    dsimp only
    go_wp2_with (first
     | (refine @wpList_store_row _ _ _ _ _ _ _ rfl 24 (.tmp 6) (.tmp 16) rfl w1.heap.size (pV p).toArray rfl rfl 24 _ (heap_alloc_new w1 _) (sizeP' _) rfl (pV_all _) ?_; rw[World.setRow_alloc_new]; simp only[Act.put])
     | (refine @wG _ _ _ _ _ _ _ (by kernel_rfl) 24 (.tmp 6) rfl w1.heap.size 0 rfl (pV p) _ (rP hp2) undP rfl (sizeP _) ?_; simp only[Act.put,aA])
     | (refine @wpList_store_mid _ _ _ _ _ _ _ (by rfl) 24 (.tmp 24) (.tmp 23) (by rfl) (w.heap.size+2) (j * 34) (pV p).toArray (by rfl) (by rfl) (by rw[pV_asize,Nat.mul_comm]; exact hth) (sizeP' _) (pV_all _) ?_; rw[Nat.mul_comm j 34]; simp only[Act.put]; generalize (w1.alloc (.cells (pV p).toArray 24)).setCells (w.heap.size+2) (34 * j) (pV p)=w5 at HN ⊢))
    clear hth hp2
    go_roundw
    case rel=>exact⟨j+1,by omega,by go_num,HN⟩
    case measure=>simp[intOf]; omega
  ·obtain rfl:j=3:=by omega
   have HZW:=HZ.out wr hr
   have HY:=Lib.hid hy
   have HOK:=Lib.hid hok
   have hy3:f3 (pj D 3)=f3 (tI D):=f3_congr fun i hi=>by unfold pj; rw[if_pos hi]
   have hrg:=hy.all
   rw[hy3] at hrg
   clear hok hR hy hy3 HY HYES HNO HTK HZ hr
   cases hz:zt D with
   | false=>
    rw[hz] at HZW
    have hnp:¬ paOk D:=fun h=>by have:=h.2; rw[hz] at this; cases this
    have HP:=Lib.hid (HPN.out hnp)
    have HZ':=Lib.hid HZW
    clear HZW hz hnp HPN HPY HOK hrg
    go_wp2_with fail
    refine HZ'.out.mono ?_
    rintro _ w1 ⟨rfl,rfl⟩
    clear HZ'
    dsimp only
    go_wp2_with (first
     | (refine @wpList_buildG _ _ _ _ _ _ _ (by kernel_rfl) 83 #[] rfl (f3 zP).toArray (by kernel_rfl) ?_; simp only[Act.put,aA])
     | (refine @wpList_store_row _ _ _ _ _ _ _ rfl 83 (.tmp 2) (.tmp 29) rfl (w.heap.size+1) (f3 zP).toArray rfl rfl 83 _ hx (size3' _) rfl (f3_all _) ?_; simp only[Act.put]))
    have hr9:=setRow_heap _ (w.heap.size+1) _ (f3 zP).toArray 83 (0,0) hx
    refine bodyPost_ret (results_3p rfl rfl rfl hr9) rfl ?_
    exact⟨by rw[HP.out.1,HP.out.2],hB.trans ⟨rfl,rfl,rfl,by simp,fun k hk=>setRow_other _ _ k _ (by omega)⟩⟩
   | true=>
    rw[hz] at HZW
    have HP:=Lib.hid (HPY.out ⟨HOK.out,hz⟩)
    have HZ':=Lib.hid HZW
    clear HZW hz HPN HPY HOK
    go_wp2_with fail
    refine HZ'.out.mono ?_
    rintro _ w1 ⟨rfl,rfl⟩
    clear HZ'
    dsimp only
    go_wp2_with (first
     | (refine @wG _ _ _ _ _ _ _ (by kernel_rfl) 83 (.tmp 4) rfl (w.heap.size+2) 0 rfl (f3 (tI D)) _ hrg und3 rfl (size3 _) ?_; simp only[Act.put,aA])
     | (refine @wpList_store_row _ _ _ _ _ _ _ rfl 83 (.tmp 2) (.tmp 30) rfl (w.heap.size+1) (f3 (tI D)).toArray rfl rfl 83 _ hx (size3' _) (by rw[List.size_toArray,List.size_toArray,f3_length,f3_length]) (f3_all _) ?_; simp only[Act.put]))
    have hr9:=setRow_heap _ (w.heap.size+1) _ (f3 (tI D)).toArray 83 (0,0) hx
    refine bodyPost_ret (results_3p rfl rfl rfl hr9) rfl ?_
    exact⟨by rw[HP.out.1,HP.out.2],hB.trans ⟨rfl,rfl,rfl,by simp,fun k hk=>setRow_other _ _ k _ (by omega)⟩⟩
end Pt
end Go.Proofs.YteaocagepfgfnaaGreatDoor
