import Derived.Test.YteaocagepfgfnaaGreatDoorPJPr
import Derived.Test.YteaocagepfgfnaaGreatDoorPGmQuo
import Derived.Test.YteaocagepfgfnaaGreatDoorPJWd
import Derived.WalkKit
import Derived.ProofKit
import Derived.OpenShut
import Derived.SizedLaws
import Derived.Deep.DeepHandedRow
import Derived.Lib.SmallJoins
import Derived.ChangeMaps5
import Derived.Test.YteaocagepfgfnaaGreatDoorPJPt
import Derived.Deep.Slices
import Derived.Test.YteaocagepfgfnaaGreatDoorPJSpA
import Derived.Test.YteaocagepfgfnaaGreatDoorPJRb
import Derived.Test.YteaocagepfgfnaaGreatDoorPJDn
set_option maxRecDepth 100000
set_option maxHeartbeats 8000000
namespace Go.Proofs.YteaocagepfgfnaaGreatDoor
namespace St
open Go.RowKit Dk Gm Eqb
def ov(n d:Int):Int:=(n - 1) / d+1
def i64(n:Int):Prop:=-9223372036854775808≤n∧n≤9223372036854775807
theorem over_any(n d:Int)(w:World)(hn:1≤n)(hn2:n≤9223372036854775807)(hd:d=3∨d=128):Calls Tryz.prog 29 #[.int .i64 n,.int .i64 d] w fun e w'=>e=.returned (.int .i64 (ov n d))∧w=w':=by
 rcases hd with rfl | rfl
 ·go_enter Tryz.func29,Tryz.ntmps29
  go_wp2_with fail
  go_ret
  exact⟨rfl,rfl⟩
 ·go_enter Tryz.func29,Tryz.ntmps29
  go_wp2_with fail
  go_ret
  exact⟨rfl,rfl⟩
def szB(n:Int):Bool:=decide (0≤n) && decide (n≤8192)
theorem sized_any(n:Int)(w:World):Calls Tryz.prog 26 #[.int .i64 n] w fun e w'=>e=.returned (.bool (szB n))∧w=w':=by
 unfold szB
 by_cases h1:0≤n
 ·rw[decide_eq_true h1]
  go_enter Tryz.func26,Tryz.ntmps26
  go_wp2_with fail
  go_ret
  exact⟨rfl,rfl⟩
 ·rw[decide_eq_false h1]
  go_enter Tryz.func26,Tryz.ntmps26
  go_wp2_with fail
  go_ret
  exact⟨rfl,rfl⟩
def alB(c:Int):Bool:=decide (1≤c) && decide (c≤2)
theorem allowed_any(c:Int)(w:World):Calls Tryz.prog 27 #[.int .i64 c] w fun e w'=>e=.returned (.bool (alB c))∧w=w':=by
 unfold alB
 by_cases h1:1≤c
 ·rw[decide_eq_true h1]
  go_enter Tryz.func27,Tryz.ntmps27
  go_wp2_with fail
  go_ret
  exact⟨rfl,rfl⟩
 ·rw[decide_eq_false h1]
  go_enter Tryz.func27,Tryz.ntmps27
  go_wp2_with fail
  go_ret
  exact⟨rfl,rfl⟩
def wd:Nat→Nat
 | 0=>1
 | d+1=>3 * wd d
theorem wd_pos:∀d,0 < wd d
 | 0=>by decide
 | d+1=>by have:=wd_pos d; rw[wd]; omega
theorem wd_mono{d e:Nat}(h:d≤e):wd d≤wd e:=by
 induction h with
 | refl=>exact Nat.le_refl _
 | step _ ih=>rw[wd]; omega
theorem wd_bd{d:Nat}(h:d≤10):wd d≤59049:=Nat.le_trans (wd_mono h) (by decide)
theorem width_any(d:Nat)(hd:d≤10)(w:World):Calls Tryz.prog 42 #[.int .i64 (d:Int)] w fun e w'=>e=.returned (.int .i64 (wd d:Int))∧w=w':=by
 go_enter Tryz.func42,Tryz.ntmps42
 go_wp2_with fail
 go_loopw [3,5] (fun n i wr=>∃k:Nat,k≤d∧i=.int .i64 k∧n=.int .i64 (wd k:Int)∧Hid (w=wr)) (fun _ i _=>d - (intOf i).toNat)
 case atStart=>exact⟨0,by omega,rfl,rfl,Lib.hid rfl⟩
 case round=>
  obtain⟨k,hk,rfl,rfl,hR⟩:=hrel
  by_cases hlt:k < d
  ·have hb:=wd_bd (d:=k) (by omega)
   have hi:(k:Int) < (d:Int):=by omega
   have hw:((wd (k+1):Nat):Int)=(wd k:Int) * 3:=by rw[wd]; omega
   have HW:=Lib.hid hw
   clear hw
   generalize wd k=n at *
   go_wp2_with fail
   go_roundw
   case rel=>exact⟨k+1,by omega,by go_num,by rw[HW.out],hR⟩
   case measure=>simp[intOf]; omega
  ·obtain rfl:k=d:=by omega
   go_wp2_with fail
   go_ret
   exact⟨rfl,hR.out⟩
def dpN(n:Nat):Nat:=if n≤1 then 0 else dpN ((n - 1) / 3+1)+1
termination_by n
decreasing_by omega
theorem dpN_le{n:Nat}(h:n≤1):dpN n=0:=by rw[dpN,if_pos h]
theorem dpN_gt{n:Nat}(h:¬ n≤1):dpN n=dpN ((n - 1) / 3+1)+1:=by rw[dpN,if_neg h]
theorem dpN_wd:∀{k n:Nat},n≤wd k→dpN n≤k
 | 0,n,h=>by rw[dpN_le h]; omega
 | k+1,n,h=>by
  by_cases h1:n≤1
  ·rw[dpN_le h1]; omega
  ·rw[wd] at h
   have:=dpN_wd (k:=k) (n:=(n - 1) / 3+1) (by omega)
   rw[dpN_gt h1]
   omega
theorem wd_40:wd 40=12157665459056928801:=by decide
theorem dpN_40{n:Nat}(h:n≤9223372036854775807):dpN n≤40:=dpN_wd (by rw[wd_40]; omega)
theorem dpN_nat{m:Int}(h:1 < m):dpN m.toNat=dpN (ov m 3).toNat+1:=by
 rw[dpN_gt (by omega)]
 have e:(m.toNat - 1) / 3+1=(ov m 3).toNat:=by unfold ov; omega
 rw[e]
theorem depth_any(n:Int)(h:n≤9223372036854775807)(w:World):Calls Tryz.prog 10 #[.int .i64 n] w fun e w'=>e=.returned (.int .i64 (dpN n.toNat:Int))∧w=w':=by
 go_enter Tryz.func10,Tryz.ntmps10
 go_wp2_with fail
 go_loopw [0,3] (fun x k wr=>∃(m:Int) (j:Nat),x=.int .i64 m∧k=.int .i64 (j:Int)∧m≤9223372036854775807∧Hid (j+dpN m.toNat=dpN n.toNat∧w=wr)) (fun x _ _=>(intOf x).toNat)
 case atStart=>exact⟨n,0,rfl,rfl,h,Lib.hid ⟨by omega,rfl⟩⟩
 case round=>
  obtain⟨m,j,rfl,rfl,hm,hR⟩:=hrel
  by_cases h1:1 < m
  ·have hj:(j:Int)≤40:=by
    have:=dpN_40 (n:=n.toNat) (by omega)
    have:=hR.out.1
    omega
   have HO:=Lib.hid (fun w'=>over_any m 3 w' (by omega) hm (.inl rfl))
   have HD:=Lib.hid (dpN_nat h1)
   have ho:ov m 3 < m:=by unfold ov; omega
   have ho2:0 < ov m 3:=by unfold ov; omega
   generalize ov m 3=o at *
   go_wp2_with fail
   refine(HO.out wr).mono ?_
   rintro _ _ ⟨rfl,rfl⟩
   dsimp only
   go_wp2_with fail
   go_roundw
   case rel=>exact⟨o,j+1,rfl,by go_num,by omega,Lib.hid ⟨by have:=hR.out.1; rw[HD.out] at this; omega,hR.out.2⟩⟩
   case measure=>simp[intOf]; omega
  ·have he:dpN m.toNat=0:=dpN_le (by omega)
   have HE:=Lib.hid he
   clear he
   go_wp2_with fail
   go_ret
   exact⟨by have:=hR.out.1; rw[HE.out] at this; rw[←this]; rfl,hR.out.2⟩
def lvI(n:Int):Int:=if n < 1 then 0 else ov n 128
theorem leaves_any(n:Int)(h:n≤9223372036854775807)(w:World):Calls Tryz.prog 8 #[.int .i64 n] w fun e w'=>e=.returned (.int .i64 (lvI n))∧w=w':=by
 unfold lvI
 by_cases h1:n < 1
 ·rw[if_pos h1]
  go_enter Tryz.func8,Tryz.ntmps8
  go_wp2_with fail
  go_ret
  exact⟨rfl,rfl⟩
 ·rw[if_neg h1]
  have HO:=Lib.hid (over_any n 128 w (by omega) h (.inr rfl))
  go_enter Tryz.func8,Tryz.ntmps8
  go_wp2_with fail
  refine HO.out.mono ?_
  rintro _ _ ⟨rfl,rfl⟩
  dsimp only
  go_wp2_with fail
  go_ret
  exact⟨rfl,rfl⟩
theorem lvI_bd(n:Int)(h:n≤9223372036854775807):0≤lvI n∧lvI n≤9223372036854775807:=by
 unfold lvI ov
 split <;> omega
theorem lvI_szB{n:Int}(h:szB n=true):0≤n∧n≤8192∧0≤lvI n∧lvI n≤64:=by
 unfold szB at h
 simp only[Bool.and_eq_true,decide_eq_true_eq] at h
 unfold lvI ov
 split <;> omega
def sV(p:Pt.Pn)(s c:Int):List Value:=Pt.pV p ++ [.int .i64 s,.int .i64 c]
theorem sV_length(p:Pt.Pn)(s c:Int):(sV p s c).length=36:=by unfold sV; rw[List.length_append,Pt.pL]; rfl
theorem sV_one(p:Pt.Pn)(s c:Int):∀u ∈ sV p s c,u.oneCell'=true:=fun u hu=>by
 rcases List.mem_append.1 hu with h | h
 ·exact Pt.pV_one p u h
 ·simp at h
  rcases h with rfl | rfl <;> rfl
theorem sV_all(p:Pt.Pn)(s c:Int):(sV p s c).toArray.all (·.oneCell')=true:=all_oneCell_toArray (sV_one p s c)
theorem sizeS(p:Pt.Pn)(s c:Int):(Tryz.prog.info? 26).map (·.size)=some (sV p s c).length:=by rw[sV_length]; kernel_rfl
theorem sizeS'(p:Pt.Pn)(s c:Int):(Tryz.prog.info? 26).map (·.size)=some (sV p s c).toArray.size:=by rw[List.size_toArray]; exact sizeS p s c
structure Bst(w:World)(b:Nat)(p:Pt.Pn)(s c:Int):Prop where
 row:w.heap[b]?=some (.cells (sV p s c).toArray 26 (0,0))
section
variable {w w':World}{b:Nat}{p:Pt.Pn}{s c:Int}
theorem Bst.pt(h:Bst w b p s c):w.rangeAt b 0 (Pt.pV p):=fun j v hv=>by
 rw[Nat.zero_add,cell_of_row w b j _ _ _ h.row]
 simp only[List.getElem?_toArray]
 unfold sV
 rw[List.getElem?_append_left (List.getElem?_eq_some_iff.1 hv).1]
 exact hv
theorem Bst.all(h:Bst w b p s c):w.rangeAt b 0 (sV p s c):=fun j v hv=>by
 rw[Nat.zero_add,cell_of_row w b j _ _ _ h.row]
 simpa using hv
theorem Bst.size(h:Bst w b p s c):w.cell? ⟨b,34,none⟩=some (.int .i64 s):=by
 rw[cell_of_row w b 34 _ _ _ h.row]
 simp only[List.getElem?_toArray]
 unfold sV
 rw[List.getElem?_append_right (by rw[Pt.pL]; omega),Pt.pL]
 rfl
theorem Bst.copies(h:Bst w b p s c):w.cell? ⟨b,35,none⟩=some (.int .i64 c):=by
 rw[cell_of_row w b 35 _ _ _ h.row]
 simp only[List.getElem?_toArray]
 unfold sV
 rw[List.getElem?_append_right (by rw[Pt.pL]; omega),Pt.pL]
 rfl
theorem Bst.keep(h:Bst w b p s c)(hb:w'.heap[b]?=w.heap[b]?):Bst w' b p s c:=⟨hb.trans h.row⟩
theorem Bst.lt(h:Bst w b p s c):b < w.heap.size:=(Array.getElem?_eq_some_iff.1 h.row).1
end
theorem bst_new(w:World)(p:Pt.Pn)(s c:Int):Below w.heap.size w (w.alloc (.cells (sV p s c).toArray 26))∧Bst (w.alloc (.cells (sV p s c).toArray 26)) w.heap.size p s c∧(w.alloc (.cells (sV p s c).toArray 26)).heap.size=w.heap.size+1:=
 ⟨(Below.refl _ _).alloc (Nat.le_refl _) _,⟨heap_alloc_new _ _⟩,by simp⟩
theorem depthof_any(p:Pt.Pn)(s c:Int)(hs:s≤9223372036854775807)(w:World):Calls Tryz.prog 40 #[.agg (sV p s c).toArray] w fun e w'=>e=.returned (.int .i64 (dpN (lvI s).toNat:Int))∧Below w.heap.size w w':=by
 obtain⟨hb0,hx0,_⟩:=bst_new w p s c
 have c1:=hx0.size
 have HL:=Lib.hid (fun w'=>leaves_any s hs w')
 have HD:=Lib.hid (fun w'=>depth_any (lvI s) (lvI_bd s hs).2 w')
 generalize lvI s=n at *
 clear hx0
 go_enter Tryz.func40,Tryz.ntmps40
 go_wp2_with fail
 refine(HL.out _).mono ?_
 rintro _ _ ⟨rfl,rfl⟩
 dsimp only
 go_wp2_with fail
 refine(HD.out _).mono ?_
 rintro _ _ ⟨rfl,rfl⟩
 dsimp only
 go_wp2_with fail
 go_ret
 exact⟨rfl,hb0⟩
def hsB(s i:Int):Bool:=decide (0≤i) && decide (i < lvI s)
theorem has_any(p:Pt.Pn)(s c i:Int)(hs:s≤9223372036854775807)(w:World):Calls Tryz.prog 39 #[.agg (sV p s c).toArray,.int .i64 i] w fun e w'=>e=.returned (.bool (hsB s i))∧Below w.heap.size w w':=by
 obtain⟨hb0,hx0,_⟩:=bst_new w p s c
 have c1:=hx0.size
 have HL:=Lib.hid (fun w'=>leaves_any s hs w')
 unfold hsB
 generalize lvI s=n at *
 clear hx0
 by_cases h0:0≤i
 ·rw[decide_eq_true h0]
  go_enter Tryz.func39,Tryz.ntmps39
  go_wp2_with fail
  refine(HL.out _).mono ?_
  rintro _ _ ⟨rfl,rfl⟩
  dsimp only
  go_wp2_with fail
  go_ret
  exact⟨rfl,hb0⟩
 ·rw[decide_eq_false h0]
  go_enter Tryz.func39,Tryz.ntmps39
  go_wp2_with fail
  go_ret
  exact⟨rfl,hb0⟩
end St
namespace Law
open Go.ChangeShapes Go.WideShapes Go.ChangeAt Go.RowKit Go.ChangeMaps Byt
theorem own:ownKnob Tryz.prog.godebug=none:=by kernel_rfl
theorem under_u8:Tryz.prog.underlying 5=some (.int .u8):=by kernel_rfl
theorem under_int:Tryz.prog.underlying 3=some (.int .i64):=by kernel_rfl
theorem under_bool:Tryz.prog.underlying 4=some .bool:=by kernel_rfl
theorem cells_u8:Tryz.prog.cellsOf 5=1:=by kernel_rfl
theorem cells_int:Tryz.prog.cellsOf 3=1:=by kernel_rfl
theorem laid_out:laidOutB Tryz.prog=true:=by kernel_rfl
theorem trodAll_below{H:Type}{enc:TypeId × Value→H}{W W':World}(hb:Below W.heap.size W W'):∀(ts:List TypeId) (vs:List Value) (ds:List (DataW H)) (ps:List MemPlace),
  (∀t ∈ ts,Tryz.prog.readableRec t=true∧t < Tryz.prog.types.size)→DataW.TrodAll enc Tryz.prog W 0 (fun _=>true) true ts vs ds ps→(∀x ∈ ps,x.block < W.heap.size)→
  DataW.TrodAll enc Tryz.prog W' 0 (fun b=>decide (b < W.heap.size)) true ts vs ds ps
 | [],vs,ds,ps,_,h,_=>by
  obtain⟨rfl,rfl,rfl⟩:=trodAll_nil h
  exact trodAll_mk0
 | t :: ts,vs,ds,ps,hr,h,hlt=>by
  obtain⟨v,vs',d,ds',p,q,rfl,rfl,rfl,h1,h2⟩:=trodAll_cons h
  exact trodAll_cons_mk (Below.trod laid_out (hr t (by simp)).1 (hr t (by simp)).2 h1 hb (fun x hx=>hlt x (by simp[hx])))
   (trodAll_below hb ts vs' ds' q (fun t ht=>hr t (by simp[ht])) h2 (fun x hx=>hlt x (by simp[hx])))
theorem law_post{s:ChangeSpec}(hv:s.vars=[]){f:FuncId}{fn:Func}(hr:fn.resultTypes=#[4])(hp:∀t ∈ fn.params.toList,Tryz.prog.readableRec t=true∧t < Tryz.prog.types.size)
  {H:Type} {enc:TypeId × Value→H} {W:World} {args:Array Value} {ds gs:List (DataW H)} {before:List MemPlace} (hs:s.fn H ds={ results:=[.lit (.bool true)],args:=ds })
  (hW:DataW.Whole enc Tryz.prog fn.params.toList s.vars false W args.toList ds gs before)
  (walk:Calls Tryz.prog f args W fun e W'=>e=.returned (.bool true)∧Below W.heap.size W W') :
  Calls Tryz.prog f args W fun e W'=>∃v,e=.returned v∧s.post enc Tryz.prog fn false true false false W args v W':=by
 have hW':=hW
 obtain⟨p,q,hA0,hV,rfl,hfz,hnd⟩:=hW
 rw[hv] at hV
 obtain⟨rfl,rfl⟩:=trodVars_none hV
 refine walk.mono fun e W' ⟨he,hb⟩=>?_
 subst he
 have hlt:∀x ∈ p,x.block < W.heap.size:=fun x hx=>by simpa using hW'.lt x (by simpa using hx)
 rw[List.append_nil] at hW'
 refine⟨_,rfl,_,_,_,[],p,[],hW',?_,?_,?_,hb.frame _,fun h=>by cases h⟩
 ·rw[hr,List.append_nil,hs]
  exact trodAll_cons_mk (shut_bool under_bool _) trodAll_mk0
 ·rw[List.append_nil,hs]
  exact trodAll_below hb _ _ _ _ hp hA0 hlt
 ·rw[hv,List.append_nil,hs]
  rfl
theorem wf_i64{z:Int}(h:(Lit.int .i64 z).wf=true):-9223372036854775808≤z∧z≤9223372036854775807:=by
 have h1:IntKind.i64.min = -9223372036854775808:=rfl
 have h2:IntKind.i64.max=9223372036854775807:=rfl
 simp only[Lit.wf,Bool.and_eq_true,decide_eq_true_eq] at h
 omega
theorem open_num{H:Type}{enc:TypeId × Value→H}{W:World}{r:Reach}{b0 base:Nat}{sp:Nat→Bool}{held:Bool}{v:Value}{d:DataW H}{ps:List MemPlace}(hval:Value.okWide Tryz.prog W r b0 3 v)(h:DataW.Trod enc Tryz.prog W base sp held 3 v d ps) :
  ∃z:Int,v=.int .i64 z∧-9223372036854775808≤z∧z≤9223372036854775807:=by
 obtain⟨z,rfl,_,_,hw⟩:=open_int under_int hval h
 exact⟨z,rfl,wf_i64 hw⟩
end Law
namespace PLaw
open Go.ChangeShapes Go.WideShapes Go.ChangeAt Go.RowKit Go.ChangeMaps Law Dk Byt
theorem cells_sum:Tryz.prog.cellsOf 22=32:=by kernel_rfl
theorem under_sum:Tryz.prog.underlying 22=some (.array 32 5):=by kernel_rfl
theorem cells_ptr:Tryz.prog.cellsOf 24=34:=by kernel_rfl
theorem wf_u8{z:Int}(h:(Lit.int .u8 z).wf=true):0≤z∧z < 256:=by
 have h1:IntKind.u8.min=0:=rfl
 have h2:IntKind.u8.max=255:=rfl
 simp only[Lit.wf,Bool.and_eq_true,decide_eq_true_eq] at h
 omega
section
variable {H:Type}{enc:TypeId × Value→H}{w:World}{base:Nat}{sp:Nat→Bool}{held:Bool}{fuel:Nat}{cs:List Value}{x:DataW H × List MemPlace}
theorem bytes_read{t:TypeId}{n:Nat}(hu:Tryz.prog.underlying t=some (.array n 5))(hc:Tryz.prog.cellsOf t=n)(h:DataW.trod enc Tryz.prog w base sp held fuel t cs=some x):∃F:Nat→Int,cs=(List.range n).map (fun j=>.int .u8 (F j))∧∀i,i < n→0≤F i∧F i < 256:=by
 obtain⟨xs,m,_,_,hl,hxl,hall⟩:=DataW.trod_array hu h
 rw[hc] at hl
 have key:∀i,i < n→∃z,cs[i]?=some (.int .u8 z)∧0≤z∧z < 256:=by
  intro i hi
  have h1:=hall i hi
  rw[cells_u8,Nat.mul_one] at h1
  obtain⟨y,hy⟩:∃y,xs[i]?=some y:=⟨xs[i]'(by omega),by simp⟩
  rw[hy] at h1
  obtain⟨z,hz,_,hw⟩:=DataW.trod_int under_u8 h1
  refine⟨z,?_,wf_u8 hw⟩
  have:=congrArg (·[0]?) hz
  simpa[List.getElem?_take,List.getElem?_drop] using this
 obtain⟨F,hF⟩:=Go.Deep.choose_lt key
 refine⟨F,List.ext_getElem? fun i=>?_,fun i hi=>(hF i hi).2⟩
 by_cases hi:i < n
 ·rw[(hF i hi).1]
  simp[hi]
 ·rw[List.getElem?_eq_none (by omega),List.getElem?_eq_none (by simp; omega)]
def PtOk(p:Pt.Pn):Prop:=(-9223372036854775808≤p.A∧p.A≤9223372036854775807)∧(-9223372036854775808≤p.B∧p.B≤9223372036854775807)∧∀j,j < 32→0≤p.S j∧p.S j < 256
theorem ptr_read(h:DataW.trod enc Tryz.prog w base sp held fuel 24 cs=some x):∃p:{ p:Pt.Pn // PtOk p },cs=Pt.pV p.1:=by
 obtain⟨y0,y1,y2,n,_,hl,h0,h1,h2⟩:=Go.Deep.trod_struct3 Tryz.underlying24 h
 rw[cells_ptr] at hl
 obtain⟨z0,e0,_,w0⟩:=DataW.trod_int under_int h0
 obtain⟨z1,e1,_,w1⟩:=DataW.trod_int under_int h1
 obtain⟨F,hF,hb⟩:=bytes_read under_sum cells_sum h2
 rw[cells_int] at e0 e1
 rw[cells_sum] at hF
 refine⟨⟨⟨z0,z1,F⟩,wf_i64 w0,wf_i64 w1,hb⟩,?_⟩
 rw[List.take_of_length_le (by simp; omega)] at hF
 show cs=.int .i64 z0 :: .int .i64 z1 :: _
 rw[←hF,←List.take_append_drop 1 cs]
 rw[List.drop_zero] at e0
 rw[e0,←List.take_append_drop 1 (cs.drop 1),e1,List.drop_drop]
 rfl
end
instance:Inhabited { p:Pt.Pn // PtOk p }:=⟨⟨Pt.pz,by unfold PtOk Pt.pz Pt.zS; simp⟩⟩
end PLaw
namespace VLaw
open Go.ChangeShapes Go.WideShapes Go.ChangeAt Go.RowKit Go.ChangeMaps Law Dk Byt
instance:Inhabited Sec:=⟨sec0⟩
instance:Inhabited Wr:=⟨⟨0,fun _=>0⟩⟩
section
variable {H:Type}{enc:TypeId × Value→H}{w:World}{base:Nat}{sp:Nat→Bool}{held:Bool}{fuel:Nat}{cs:List Value}{x:DataW H × List MemPlace}
end
abbrev PrT:={ t:Int × Int // Rm.i64 t.1∧Rm.i64 t.2 }
instance:Inhabited PrT:=⟨⟨(0,0),by unfold Rm.i64; omega⟩⟩
section
variable {H:Type}{enc:TypeId × Value→H}{w:World}{base:Nat}{sp:Nat→Bool}{held:Bool}{fuel:Nat}{cs:List Value}{x:DataW H × List MemPlace}
end
end VLaw
namespace VLaw
open Go.ChangeShapes Go.WideShapes Go.ChangeAt Go.RowKit Go.ChangeMaps Law Dk Byt PLaw
theorem cells_stem:Tryz.prog.cellsOf 26=36:=by kernel_rfl
theorem open_stem{H:Type}{enc:TypeId × Value→H}{W:World}{r:Reach}{b0 base:Nat}{sp:Nat→Bool}{held:Bool}{v:Value}{d:DataW H}{ps:List MemPlace}
  (hval:Value.okWide Tryz.prog W r b0 26 v) (h:DataW.Trod enc Tryz.prog W base sp held 26 v d ps):∃(p:Pt.Pn) (s c:Int),v=.agg (St.sV p s c).toArray∧PtOk p∧(-9223372036854775808≤s∧s≤9223372036854775807)∧(-9223372036854775808≤c∧c≤9223372036854775807):=by
 obtain⟨cs,rfl,_⟩:=okWide_struct Tryz.underlying26 hval
 obtain⟨fuel,hf⟩:=h
 obtain⟨y0,y1,y2,n,_,hl,h0,h1,h2⟩:=Go.Deep.trod_struct3 Tryz.underlying26 hf
 have hl':cs.toList.length=36:=by rw[cells_stem] at hl; exact hl
 obtain⟨p,hp⟩:=ptr_read h0
 obtain⟨z1,e1,_,w1⟩:=DataW.trod_int under_int h1
 obtain⟨z2,e2,_,w2⟩:=DataW.trod_int under_int h2
 rw[cells_int] at e1 e2
 rw[cells_ptr] at hp
 refine⟨p.1,z1,z2,?_,p.2,wf_i64 w1,wf_i64 w2⟩
 have key:cs.toList=St.sV p.1 z1 z2:=by
  show cs.toList=Pt.pV p.1 ++ [Value.int .i64 z1,Value.int .i64 z2]
  have hv:(Value.agg cs).cells.toList=cs.toList:=rfl
  rw[hv] at hp e1 e2
  have e3:cs.toList.drop 35=[.int .i64 z2]:=by
   rwa [List.take_of_length_le (by rw[List.length_drop]; show cs.toList.length - 35≤1; omega)] at e2
  have e4:cs.toList.drop 34=[.int .i64 z1,.int .i64 z2]:=by
   rw[←List.take_append_drop 1 (cs.toList.drop 34),e1,List.drop_drop,e3]
   rfl
  rw[List.drop_zero] at hp
  rw[←hp,←e4,List.take_append_drop]
 rw[←key]
end VLaw
end Go.Proofs.YteaocagepfgfnaaGreatDoor
