import Derived.Test.YteaocagepfgfnaaGreatDoorPStP
import Derived.Test.YteaocagepfgfnaaGreatDoorPAl
set_option maxRecDepth 100000
set_option maxHeartbeats 8000000
namespace Go.Proofs.YteaocagepfgfnaaGreatDoor
namespace St
open Go.RowKit Dk Gm Eqb Rm Di Vl Qv
open Vm (HasVol vM)
attribute [local go_sem] Pt.zvP Pt.zv3 zv29
attribute [local go_sem] Pt.zc3 zc29
variable {q:Qt}{X:Dst}{f:Nat→Int}{H:List Hd}
theorem wd_dpN(n:Nat):n≤wd (dpN n):=by
 induction n using Nat.strongRecOn with
 | _ n ih=>
  by_cases h:n≤1
  ·rw[dpN_le h]; exact h
  ·rw[dpN_gt h,wd]
   have:=ih ((n - 1) / 3+1) (by omega)
   omega
theorem zb_byt:Di.byt zb:=fun i _=>by unfold zb; omega
theorem zb_zero:Wd.zeroB zb 128=true:=Wd.zeroB_true.2 fun _ _=>rfl
theorem get_t{w:World}{V:Pl}(hkp:Rm.Kp w)(hv:HV w V q X f)(hP:Py q X f H)(hm:X.m≤90000){T:Tr}(ho:T.ok 0)(hon:T.on H)(k:Nat) :
  Calls Tryz.prog 43 #[.pointer (some ⟨V.b,V.o,none⟩),.agg (Pt.pV T.root).toArray] w fun e w'=>e=.returned (.tuple #[.agg (bl (T.at 0 k)).toArray,.int .i64 0])∧TV w V q X f w':=by
 cases T with
 | no=>exact q_get (x:=(Pt.hole,zb)) (hP.hole zb_byt zb_zero) hm (by simp) hkp hv
 | leaf p b=>exact q_get (x:=(p,b)) hP hm (hon _ (by simp[Tr.held])) hkp hv
 | node p a b c=>exact ho.elim
theorem tv_grown{w w' w2:World}{V:Pl}{b:Nat}{cur:Array Value}{t:TypeId}(h:TV w V q X f w')(hb:w.heap.size≤b)(ho:Off w' V b)(hr:w'.heap[b]?=some (.cells cur t (0,0)))(t1:t≠130)(t2:t≠108)(hg:w'.grownBy w2 (some b)):TV w V q X f w2∧Off w2 V b∧∀k,Off w' V k→Off w2 V k:=by
 obtain⟨hf1,hf2⟩:=hasVol_only h.v (kq0 q) ho hr t1 t2 (.inl rfl) hg
 have hc:w2.cell? ⟨V.b,V.o+9,none⟩=w'.cell? ⟨V.b,V.o+9,none⟩:=World.cell?_of_block (hg.block V.b h.v.lt (by simpa using ho.1))
 exact⟨⟨hf1,grown_only h.g hb hg,h.l.trans (Vl.Loc.same hc) h.g.size⟩,hf2,fun k hk=>⟨hk.1,fun a o s k c e=>hk.2 a o s k c (by rw[←hc]; exact e)⟩⟩
structure LfW(w:World)(V:Pl)(q:Qt)(X:Dst)(f:Nat→Int)(b8:Nat)(p:Pt.Pn)(wr:World):Prop where
 t:TV w V q X f wr
 r:wr.heap[b8]?=some (.cells (Pt.pV p).toArray 24 (0,0))
 z:wr.heap[w.heap.size+1]?=some (.cells (bl fun _=>0).toArray 47 (0,0))
 h8:w.heap.size≤b8
 ne:b8≠w.heap.size+1
 o8:Off wr V b8
 oz:Off wr V (w.heap.size+1)
section
variable {w wr w':World}{V:Pl}{b8:Nat}{p p':Pt.Pn}
theorem LfW.call(h:LfW w V q X f b8 p wr)(ht:TV wr V q X f w'):LfW w V q X f b8 p w':=by
 have l8:=(Array.getElem?_eq_some_iff.1 h.r).1
 have lz:=(Array.getElem?_eq_some_iff.1 h.z).1
 exact⟨h.t.trans ht,(tv_blk ht l8 h.o8.1).trans h.r,(tv_blk ht lz h.oz.1).trans h.z,h.h8,h.ne,h.o8.loc l8 ht.l,h.oz.loc lz ht.l⟩
theorem LfW.below(h:LfW w V q X f b8 p wr)(hb:Below wr.heap.size wr w'):LfW w V q X f b8 p w':=h.call (Tv.of h.t.v hb)
theorem LfW.store(h:LfW w V q X f b8 p wr)(hg:wr.grownBy w' (some b8))(hr:w'.heap[b8]?=some (.cells (Pt.pV p').toArray 24 (0,0))):LfW w V q X f b8 p' w':=by
 have lz:=(Array.getElem?_eq_some_iff.1 h.z).1
 obtain⟨h1,h2,h3⟩:=tv_grown h.t h.h8 h.o8 h.r (by decide) (by decide) hg
 exact⟨h1,hr,(hg.block _ lz (by have:=h.ne; simpa using Ne.symm this)).trans h.z,h.h8,h.ne,h2,h3 _ h.oz⟩
end
theorem box_leaf(w:World)(p:Pt.Pn)(s c:Int):∃W,W=(w.alloc (.cells (sV p s c).toArray 26)).alloc (.cells (bl fun _=>0).toArray 47)∧Below w.heap.size w W∧W.heap.size=w.heap.size+2∧Bst W w.heap.size p s c∧W.heap[w.heap.size+1]?=some (.cells (bl fun _=>0).toArray 47 (0,0)):=by
 obtain⟨W1,hW1,b1,x1,s1⟩:=box_s w p s c
 have b2:Below W1.heap.size W1 (W1.alloc (.cells (bl fun _=>0).toArray 47)):=(Below.refl _ _).alloc (Nat.le_refl _) _
 have h2:=heap_alloc_new W1 (.cells (bl fun _=>0).toArray 47)
 rw[s1] at h2
 exact⟨_,by rw[hW1],b1.trans (b2.mono b1.size),by simp[s1],x1.keep (b2.block _ (by omega)),h2⟩
structure Rw(base:World)(b:Nat)(cur new:List Value)(t:TypeId)(s:Bool)(w':World):Prop where
 g:base.grownBy w' (some b)
 r:w'.heap[b]?=some (.cells (if s then new else cur).toArray t (0,0))
theorem Rw.start{base:World}{b:Nat}{cur new:List Value}{t:TypeId}(h:base.heap[b]?=some (.cells cur.toArray t (0,0))):Rw base b cur new t false { base with drawn:=base.drawn+1 }:=⟨⟨rfl,rfl,rfl,Nat.le_refl _,fun _ _ _=>rfl⟩,h⟩
theorem Rw.row{base w':World}{b:Nat}{cur new:List Value}{t:TypeId}{s:Bool}(h:Rw base b cur new t s w')(hs:s=false):w'.heap[b]?=some (.cells cur.toArray t (0,0)):=by
 have:=h.r
 rw[hs] at this
 exact this
theorem Rw.store{base w':World}{b:Nat}{cur new:List Value}{t:TypeId}{s:Bool}(h:Rw base b cur new t s w')(hs:s=false):Rw base b cur new t true (w'.setRow b new.toArray):=⟨Dk.oT h.g (gR _),setRow_heap _ _ _ _ _ _ (h.row hs)⟩
theorem range_block{w w':World}{b o:Nat}{l:List Value}(h:w.rangeAt b o l)(hb:w'.heap[b]?=w.heap[b]?):w'.rangeAt b o l:=fun j v hv=>(World.cell?_of_block hb).trans (h j v hv)
structure Lr(base:World)(b8 b10 k n a b:Nat)(cur:List Value)(pa:Pt.Pn)(L:Nat→Bool)(u0 u1 u2 u3 u4 u5 u6 u7 v2:Value)(w':World):Prop where
 fa0:L 0=true→u0=.int .i64 (k:Int)
 fa1:L 1=true→u1=.int .i64 (n:Int)
 fa2:L 2=true→u2=.int .i64 (a:Int)
 fa3:L 3=true→u3=.pointer (some ⟨b10,a * 34,none⟩)
 fa4:L 4=true→u4=.agg (Pt.pV pa).toArray
 fa5:L 5=true→u5=.int .i64 (k:Int)
 fa6:L 6=true→u6=.int .i64 (n:Int)
 fa7:L 7=true→u7=.int .i64 (b:Int)
 lb:L 9=false→v2=.int .i64 (k:Int)
 la:L 9=true→v2=.int .i64 (b:Int)
 lo:L 9=true→L 0=true∧L 5=true
 wd:Rw base b8 cur (Pt.pV pa) 24 (L 8) w'
theorem lK{L:Nat→Bool}{i k:Nat}{b:Bool}{Q:Prop}(h:L k=b→Q)(h1:(k == i)=false):(k == i || L k)=b→Q:=by
 rw[h1,Bool.false_or]
 exact h
theorem Lr_ko{L:Nat→Bool}{i k:Nat}(h:L k=true):(k == i || L k)=true:=by
 rw[h,Bool.or_true]
section
variable {base:World}{b8 b10 k n a b:Nat}{cur:List Value}{pa:Pt.Pn}{L:Nat→Bool}{u0 u1 u2 u3 u4 u5 u6 u7 v2:Value}{w' w'':World}
theorem Lr.set0(h:Lr base b8 b10 k n a b cur pa L u0 u1 u2 u3 u4 u5 u6 u7 v2 w'):Lr base b8 b10 k n a b cur pa (fun j=>j == 0 || L j) (.int .i64 (k:Int)) u1 u2 u3 u4 u5 u6 u7 v2 w':=
 ⟨fun _=>rfl,lK h.fa1 rfl,lK h.fa2 rfl,lK h.fa3 rfl,lK h.fa4 rfl,lK h.fa5 rfl,lK h.fa6 rfl,lK h.fa7 rfl,lK h.lb rfl,lK h.la rfl,fun e=>by have e':L 9=true:=e; exact⟨Lr_ko (h.lo e').1,Lr_ko (h.lo e').2⟩,h.wd⟩
theorem Lr.set1(h:Lr base b8 b10 k n a b cur pa L u0 u1 u2 u3 u4 u5 u6 u7 v2 w'):Lr base b8 b10 k n a b cur pa (fun j=>j == 1 || L j) u0 (.int .i64 (n:Int)) u2 u3 u4 u5 u6 u7 v2 w':=
 ⟨lK h.fa0 rfl,fun _=>rfl,lK h.fa2 rfl,lK h.fa3 rfl,lK h.fa4 rfl,lK h.fa5 rfl,lK h.fa6 rfl,lK h.fa7 rfl,lK h.lb rfl,lK h.la rfl,fun e=>by have e':L 9=true:=e; exact⟨Lr_ko (h.lo e').1,Lr_ko (h.lo e').2⟩,h.wd⟩
theorem Lr.set2(h:Lr base b8 b10 k n a b cur pa L u0 u1 u2 u3 u4 u5 u6 u7 v2 w'):Lr base b8 b10 k n a b cur pa (fun j=>j == 2 || L j) u0 u1 (.int .i64 (a:Int)) u3 u4 u5 u6 u7 v2 w':=
 ⟨lK h.fa0 rfl,lK h.fa1 rfl,fun _=>rfl,lK h.fa3 rfl,lK h.fa4 rfl,lK h.fa5 rfl,lK h.fa6 rfl,lK h.fa7 rfl,lK h.lb rfl,lK h.la rfl,fun e=>by have e':L 9=true:=e; exact⟨Lr_ko (h.lo e').1,Lr_ko (h.lo e').2⟩,h.wd⟩
theorem Lr.set3(h:Lr base b8 b10 k n a b cur pa L u0 u1 u2 u3 u4 u5 u6 u7 v2 w'):Lr base b8 b10 k n a b cur pa (fun j=>j == 3 || L j) u0 u1 u2 (.pointer (some ⟨b10,a * 34,none⟩)) u4 u5 u6 u7 v2 w':=
 ⟨lK h.fa0 rfl,lK h.fa1 rfl,lK h.fa2 rfl,fun _=>rfl,lK h.fa4 rfl,lK h.fa5 rfl,lK h.fa6 rfl,lK h.fa7 rfl,lK h.lb rfl,lK h.la rfl,fun e=>by have e':L 9=true:=e; exact⟨Lr_ko (h.lo e').1,Lr_ko (h.lo e').2⟩,h.wd⟩
theorem Lr.set4(h:Lr base b8 b10 k n a b cur pa L u0 u1 u2 u3 u4 u5 u6 u7 v2 w'):Lr base b8 b10 k n a b cur pa (fun j=>j == 4 || L j) u0 u1 u2 u3 (.agg (Pt.pV pa).toArray) u5 u6 u7 v2 w':=
 ⟨lK h.fa0 rfl,lK h.fa1 rfl,lK h.fa2 rfl,lK h.fa3 rfl,fun _=>rfl,lK h.fa5 rfl,lK h.fa6 rfl,lK h.fa7 rfl,lK h.lb rfl,lK h.la rfl,fun e=>by have e':L 9=true:=e; exact⟨Lr_ko (h.lo e').1,Lr_ko (h.lo e').2⟩,h.wd⟩
theorem Lr.set5(h:Lr base b8 b10 k n a b cur pa L u0 u1 u2 u3 u4 u5 u6 u7 v2 w'):Lr base b8 b10 k n a b cur pa (fun j=>j == 5 || L j) u0 u1 u2 u3 u4 (.int .i64 (k:Int)) u6 u7 v2 w':=
 ⟨lK h.fa0 rfl,lK h.fa1 rfl,lK h.fa2 rfl,lK h.fa3 rfl,lK h.fa4 rfl,fun _=>rfl,lK h.fa6 rfl,lK h.fa7 rfl,lK h.lb rfl,lK h.la rfl,fun e=>by have e':L 9=true:=e; exact⟨Lr_ko (h.lo e').1,Lr_ko (h.lo e').2⟩,h.wd⟩
theorem Lr.set6(h:Lr base b8 b10 k n a b cur pa L u0 u1 u2 u3 u4 u5 u6 u7 v2 w'):Lr base b8 b10 k n a b cur pa (fun j=>j == 6 || L j) u0 u1 u2 u3 u4 u5 (.int .i64 (n:Int)) u7 v2 w':=
 ⟨lK h.fa0 rfl,lK h.fa1 rfl,lK h.fa2 rfl,lK h.fa3 rfl,lK h.fa4 rfl,lK h.fa5 rfl,fun _=>rfl,lK h.fa7 rfl,lK h.lb rfl,lK h.la rfl,fun e=>by have e':L 9=true:=e; exact⟨Lr_ko (h.lo e').1,Lr_ko (h.lo e').2⟩,h.wd⟩
theorem Lr.set7(h:Lr base b8 b10 k n a b cur pa L u0 u1 u2 u3 u4 u5 u6 u7 v2 w'):Lr base b8 b10 k n a b cur pa (fun j=>j == 7 || L j) u0 u1 u2 u3 u4 u5 u6 (.int .i64 (b:Int)) v2 w':=
 ⟨lK h.fa0 rfl,lK h.fa1 rfl,lK h.fa2 rfl,lK h.fa3 rfl,lK h.fa4 rfl,lK h.fa5 rfl,lK h.fa6 rfl,fun _=>rfl,lK h.lb rfl,lK h.la rfl,fun e=>by have e':L 9=true:=e; exact⟨Lr_ko (h.lo e').1,Lr_ko (h.lo e').2⟩,h.wd⟩
theorem Lr.set8(h:Lr base b8 b10 k n a b cur pa L u0 u1 u2 u3 u4 u5 u6 u7 v2 w')(hw:Rw base b8 cur (Pt.pV pa) 24 true w''):Lr base b8 b10 k n a b cur pa (fun j=>j == 8 || L j) u0 u1 u2 u3 u4 u5 u6 u7 v2 w'':=
 ⟨lK h.fa0 rfl,lK h.fa1 rfl,lK h.fa2 rfl,lK h.fa3 rfl,lK h.fa4 rfl,lK h.fa5 rfl,lK h.fa6 rfl,lK h.fa7 rfl,lK h.lb rfl,lK h.la rfl,fun e=>by have e':L 9=true:=e; exact⟨Lr_ko (h.lo e').1,Lr_ko (h.lo e').2⟩,hw⟩
theorem Lr.set9(h:Lr base b8 b10 k n a b cur pa L u0 u1 u2 u3 u4 u5 u6 u7 v2 w')(h0:L 0=true)(h5:L 5=true):Lr base b8 b10 k n a b cur pa (fun j=>j == 9 || L j) u0 u1 u2 u3 u4 u5 u6 u7 (.int .i64 (b:Int)) w':=
 ⟨lK h.fa0 rfl,lK h.fa1 rfl,lK h.fa2 rfl,lK h.fa3 rfl,lK h.fa4 rfl,lK h.fa5 rfl,lK h.fa6 rfl,lK h.fa7 rfl,(fun e=>by cases e),fun _=>rfl,fun _=>⟨Lr_ko h0,Lr_ko h5⟩,h.wd⟩
end
def LrInv(x0 x1 x3 x4 x5 x6 x7 x9 x11 x13 x14 x15 x16 x17 x18 x19 x20 x21 x22 x23 x24 x25 x26 x27 x28 x29 x30 x31 x32 x33 x34 x35 x36 x37 x38 x39 x40 x41 x42 x43 x44 x53 x54 x55 x56 x57:Value)(base:World)(b8 b10 k n a b:Nat)(cur:List Value)(pa:Pt.Pn)(L:Nat→Bool)(a':Act)(w':World):Prop:=
 ∃u0 u1 u2 u3 u4 u5 u6 u7 v2,a'={ tmps:=#[x0,x1,v2,x3,x4,x5,x6,x7,.pointer (some ⟨b8,0,none⟩),x9,.pointer (some ⟨b10,0,none⟩),x11,.int .i64 (n:Int),x13,x14,x15,x16,x17,x18,x19,x20,x21,x22,x23,x24,x25,x26,x27,x28,x29,x30,x31,x32,x33,x34,x35,x36,x37,x38,x39,x40,x41,x42,x43,x44,u0,u1,u2,u3,u4,u5,u6,u7,x53,x54,x55,x56,x57],defers:=[] }∧Lr base b8 b10 k n a b cur pa L u0 u1 u2 u3 u4 u5 u6 u7 v2 w'
theorem leaf_t{w:World}{V:Pl}(hkp:Rm.Kp w)(hv:HV w V q X f)(hP:Py q X f H)(hm:X.m≤90000){T:Tr}{s c:Int}(hs:szB s=true)(hc:alB c=true)(ho:T.ok (dpN (lvI s).toNat))(hon:T.on H){i:Nat}(hi:(i:Int) < lvI s) :
  Calls Tryz.prog 15 #[.pointer (some ⟨V.b,V.o,none⟩),.agg (sV T.root s c).toArray,.int .i64 (i:Int)] w fun e w'=>e=.returned (.tuple #[.agg (bl (T.at (dpN (lvI s).toNat) i)).toArray,.int .i64 0])∧TV w V q X f w':=by
 obtain⟨s0,s1,s2,s3⟩:=lvI_szB hs
 obtain⟨rA,rB,rm,rr,_⟩:=root_mine hP ho hon
 obtain⟨W,hW,hb0,hz0,hx0,hz⟩:=box_leaf w T.root s c
 have HON:=Lib.hid (on_any (hv.below hb0) tabM (i64_b q) T.root s c rA rB)
 rw[rm,show rsB T.root s c=true by unfold rsB; rw[rr,hs,hc]; rfl] at HON
 have HHS:=Lib.hid (fun w'=>has_any T.root s c i (by omega) w')
 rw[show hsB s i=true by unfold hsB; rw[decide_eq_true (show(0:Int)≤i by omega),decide_eq_true hi]; rfl] at HHS
 have HDP:=Lib.hid (fun w'=>depthof_any T.root s c (by omega) w')
 have hd4:dpN (lvI s).toNat≤4:=dpN_wd (Nat.le_trans (show(lvI s).toNat≤64 by omega) (by decide))
 have hiw:i < wd (dpN (lvI s).toNat):=Nat.lt_of_lt_of_le (by omega) (wd_dpN (lvI s).toNat)
 have HPT:=Lib.hid (fun(w':World) (hv':HV w' V q X f) (hb:Rm.Kp w') (d:Nat) (U:Tr) (hU:U.ok (d+1)) (hO:U.on H)=>parts_t hb hv' hP hm hU hO)
 have HGE:=Lib.hid (fun(w':World) (hv':HV w' V q X f) (hb:Rm.Kp w') (U:Tr) (hU:U.ok 0) (hO:U.on H) (k:Nat)=>get_t hb hv' hP hm hU hO k)
 have HKP:=Lib.hid (fun(w':World) (hg:w.grownBy w' (some V.b))=>hkp.grown hg (hasVol_ne hv))
 have HT0:=Lib.hid (fun(w':World) (hb:Below w.heap.size w w')=>Tv.of hv hb)
 have HOF:=Lib.hid (fun(b:Nat) (h:w.heap.size≤b) (w':World) (hb:Below w.heap.size w w')=>(Off.new hv (kq0 q) h).below hv.lt hb)
 have hrs:=hx0.all
 have HXS:=Lib.hid (fun w' (hb:Below W.heap.size W w')=>hx0.keep (hb.block w.heap.size (by omega)))
 clear hkp hv hP rm rr rA rB hx0
 generalize dpN (lvI s).toNat=d at *
 generalize hp0:T.root=p0 at *
 have HP0:=Lib.hid hp0
 clear hp0
 go_enter Tryz.func15,Tryz.ntmps15
 go_wp2_with (first | (rw[←hW]) | (rw[←hW]) | (refine wpList_load_mid rfl 26 (.tmp 4) rfl w.heap.size 0 rfl (sV p0 s c) _ (by exact hrs) undS rfl (sizeS p0 s c) ?_; simp only[Act.put,aA]))
 refine HON.out.mono ?_
 rintro _ w1 ⟨rfl,hb1⟩
 have hr1:=(HXS.out w1 hb1).all
 clear HON hrs hW
 dsimp only
 go_wp2_with (first | (refine wG (by kernel_rfl) 26 (.tmp 4) rfl w.heap.size 0 rfl (sV p0 s c) _ (by exact hr1) undS rfl (sizeS p0 s c) ?_; simp only[Act.put,aA]))
 refine(HHS.out w1).mono ?_
 rintro _ w2 ⟨rfl,hb2⟩
 have hB2:=hb1.trans (hb2.mono hb1.size)
 have hp2:=(HXS.out w2 hB2).pt
 clear HHS hr1
 dsimp only
 have hB0:=hb0.trans (hB2.mono hb0.size)
 have hw3:∃w3,w3=w2.alloc (.cells (Pt.pV p0).toArray 24)∧LfW w V q X f w2.heap.size p0 w3:=by
  refine⟨_,rfl,?_⟩
  have hb:Below w2.heap.size w2 (w2.alloc (.cells (Pt.pV p0).toArray 24)):=(Below.refl _ _).alloc (Nat.le_refl _) _
  have hs2:=hB2.size
  have hB:=hB0.trans (hb.mono hB0.size)
  exact⟨HT0.out _ hB,heap_alloc_new _ _,(hb.block _ (by omega)).trans ((hB2.block (w.heap.size+1) (by omega)).trans hz),by omega,by omega,HOF.out _ (by omega) _ hB,HOF.out _ (by omega) _ hB⟩
 obtain⟨w3,hW3,hL3⟩:=hw3
 have hr3:=Bst.keep (w':=w3) (HXS.out w2 hB2) (by
  rw[hW3]
  exact(((Below.refl w2.heap.size w2).alloc (Nat.le_refl _) _).block w.heap.size (by have:=hB2.size; omega)))
 have hr4:=hr3.all
 have HL3:=Lib.hid hL3
 have hsz:w3.heap.size=w2.heap.size+1:=by rw[hW3]; simp
 clear hb1 hb2 hB2 hB0 hz HXS HOF HT0 hL3 hr3 hb0 hz0
 go_upto_region 4 with (first | (refine wpList_load_mid rfl 24 (.tmp 24) rfl w.heap.size 0 rfl (Pt.pV p0) _ (by exact hp2) Pt.undP rfl (Pt.sizeP p0) ?_; simp only[Act.put,aA]) | (refine @wpList_store_row _ _ _ _ _ _ _ rfl 24 (.tmp 8) (.tmp 25) rfl w2.heap.size (Pt.pV p0).toArray rfl rfl 24 _ (heap_alloc_new w2 _) (Pt.sizeP' _) rfl (Pt.pV_all _) ?_; simp only[Act.put]; rw[World.setRow_alloc_new,←hW3]))
 clear hp2 hW3
 generalize w2.heap.size=b8 at *
 go_wp2_with (first | (refine wpList_load_mid rfl 26 (.tmp 4) rfl w.heap.size 0 rfl (sV p0 s c) _ (by exact hr4) undS rfl (sizeS p0 s c) ?_; simp only[Act.put,aA]))
 refine(HDP.out w3).mono ?_
 rintro _ w4 ⟨rfl,hb4⟩
 have HL4:=Lib.hid (HL3.out.below hb4)
 clear HDP HL3 hr4 hb4 hsz
 have HAT:Hid (T.at d i=T.at d i):=Lib.hid rfl
 dsimp only
 go_wp2_with fail
 go_loopw [2,9] (fun a b wr=>∃(k j:Nat) (U:Tr),a=.int .i64 k∧b=.int .i64 j∧j≤d∧k < wd j∧Hid (U.ok j∧U.on H∧U.at j k=T.at d i∧LfW w V q X f b8 U.root wr)) (fun _ b _=>(intOf b).toNat)
 case atStart=>exact⟨i,d,T,rfl,rfl,Nat.le_refl _,hiw,Lib.hid ⟨ho,hon,rfl,by rw[HP0.out]; exact HL4.out⟩⟩
 case round=>
  clear HL4
  obtain⟨k,j,U,rfl,rfl,hj,hk,hR⟩:=hrel
  obtain⟨hU,hUH,hat,hL⟩:=hR.out
  have HU:=Lib.hid hU
  have HUH:=Lib.hid hUH
  have HUA:=Lib.hid hat
  have HL:=Lib.hid hL
  clear hR hU hUH hat hL
  by_cases hj0:j=0
  ·subst hj0
   have hr8:=Pt.rP HL.out.r
   have HG:=Lib.hid (HGE.out wr HL.out.t.v (HKP.out wr HL.out.t.g) U HU.out HUH.out k)
   rw[HUA.out] at HG
   clear HGE HPT HU HUH HUA
   go_wp2_with (first | (refine wpList_load_mid rfl 24 (.tmp 8) rfl b8 0 rfl (Pt.pV U.root) _ (by exact hr8) Pt.undP rfl (Pt.sizeP U.root) ?_; simp only[Act.put,aA]))
   refine HG.out.mono ?_
   rintro _ w5 ⟨rfl,hT5⟩
   have HL5:=Lib.hid (HL.out.call hT5)
   have hz5:=HL5.out.z
   clear HG HL hr8 hT5
   dsimp only
   go_wp2_with (first | (refine @wpList_store_row _ _ _ _ _ _ _ rfl 47 (.tmp 6) (.tmp 56) rfl (w.heap.size+1) (bl (T.at d i)).toArray rfl rfl 47 _ hz5 (by rw[List.size_toArray]; exact sB _) rfl (all_oneCell_toArray (bl_one _)) ?_; simp only[Act.put]))
   refine bodyPost_ret (Pt.results_bl rfl rfl rfl (setRow_heap _ _ _ _ _ _ hz5)) rfl ?_
   exact⟨rfl,(tv_grown HL5.out.t (by omega) HL5.out.oz hz5 (by decide) (by decide) (gR _)).1⟩
  ·obtain⟨j',rfl⟩:∃j',j=j'+1:=⟨j - 1,by omega⟩
   have hr8:=Pt.rP HL.out.r
   have HP:=Lib.hid (HPT.out wr HL.out.t.v (HKP.out wr HL.out.t.g) j' U HU.out HUH.out)
   have hj1:(0:Int) < ((j'+1:Nat):Int):=by omega
   have HWI:=Lib.hid (fun w'=>width_any j' (by omega) w')
   go_wp2_with (first | (refine wpList_load_mid rfl 24 (.tmp 8) rfl b8 0 rfl (Pt.pV U.root) _ (by exact hr8) Pt.undP rfl (Pt.sizeP U.root) ?_; simp only[Act.put,aA]))
   refine HP.out.mono ?_
   rintro _ w5 ⟨rfl,hT5⟩
   have HL5:=Lib.hid (HL.out.call hT5)
   have hb6:Below w5.heap.size w5 (w5.alloc (.cells (Pt.f3 U.rts).toArray 83)):=(Below.refl _ _).alloc (Nat.le_refl _) _
   have h6:=heap_alloc_new w5 (.cells (Pt.f3 U.rts).toArray 83)
   have HL6:=Lib.hid (HL5.out.below hb6)
   have H6:=Lib.hid h6
   have hlt6:=(Array.getElem?_eq_some_iff.1 HL5.out.r).1
   clear HP HL HL5 hr8 hT5 hb6 h6
   dsimp only
   go_upto_region 8 with (refine @wpList_store_row _ _ _ _ _ _ _ rfl 83 (.tmp 10) (.tmp 36) rfl w5.heap.size (Pt.f3 U.rts).toArray rfl rfl 83 _ (heap_alloc_new w5 _) (Pt.size3' _) rfl (Pt.f3_all _) ?_; simp only[Act.put]; rw[World.setRow_alloc_new]; generalize w5.alloc (.cells (Pt.f3 U.rts).toArray 83)=w6 at HL6 H6 ⊢)
   go_wp2_with fail
   refine(HWI.out _).mono ?_
   rintro _ _ ⟨rfl,rfl⟩
   have hn:=wd_pos j'
   have hn2:=wd_bd (d:=j') (by omega)
   have hk3:k < 3 * wd j':=hk
   have hUA:(U.ch (k / wd j')).at j' (k % wd j')=T.at d i:=HUA.out
   have HUA':=Lib.hid hUA
   have hroot:U.rts (k / wd j')=(U.ch (k / wd j')).root:=rfl
   have HRT:=Lib.hid hroot
   have HUC:=Lib.hid (ok_ch HU.out (k / wd j'))
   have HOC:=Lib.hid (on_ch HUH.out (k / wd j'))
   have ha:k / wd j' < 3:=Nat.div_lt_of_lt_mul (by omega)
   have hb:k % wd j' < wd j':=Nat.mod_lt _ hn
   have eq1:((k:Int) / (wd j':Int))=((k / wd j':Nat):Int):=rfl
   have eq2:((k:Int) % (wd j':Int))=((k % wd j':Nat):Int):=rfl
   have eq3:(k:Int).tmod (wd j':Int)=((k % wd j':Nat):Int):=rfl
   have hr6:=f3_row H6.out ha
   clear hUA hroot HUA HU HUH HPT HGE HP0
   generalize k / wd j'=a at *
   generalize k % wd j'=b at *
   generalize hnw:wd j'=n at *
   have HNW:=Lib.hid hnw
   clear hnw
   have hn0:(n:Int)≠0:=by omega
   have hn1:((n:Int) == 0)=false:=by simpa using hn0
   have ha0:(0:Int)≤(a:Int):=by omega
   have ha3:(a:Int) < 3:=by omega
   have hnn:¬ n=0:=by omega
   have hwa:IntKind.i64.wrap (a:Int)=(a:Int):=IntWalk.i64_in _ (by omega)
   have hwb:IntKind.i64.wrap (b:Int)=(b:Int):=IntWalk.i64_in _ (by omega)
   generalize hQ:U.rts a=pa at *
   have HQA:=Lib.hid hQ
   clear hQ
   dsimp only
   go_wp2_with fail
   have HR6:=Lib.hid (fun w' (hg:w6.grownBy w' (some b8))=>range_block hr6 (hg.block w5.heap.size (Array.getElem?_eq_some_iff.1 H6.out).1 (by simp; omega)))
   have HROW:=Lib.hid HL6.out.r
   refine QuietTail2.regionInv (n:=10) (Inv:=LrInv _ _ _ _ _ _ _ _ _ _ _ _ _ _ _ _ _ _ _ _ _ _ _ _ _ _ _ _ _ _ _ _ _ _ _ _ _ _ _ _ _ _ _ _ _ _ w6 b8 w5.heap.size k n a b (Pt.pV U.root) pa) (by kernel_rfl) (by decide) (by kernel_rfl) ⟨_,_,_,_,_,_,_,_,_,rfl,⟨by simp,by simp,by simp,by simp,by simp,by simp,by simp,by simp,fun _=>rfl,(fun e=>by cases e),(fun e=>by cases e),?_⟩⟩ ?step ?fin
   exact Rw.start HROW.out
   case step=>
    rintro i o hi ho L a' w' ⟨u0,u1,u2,u3,u4,u5,u6,u7,v2,rfl,TT⟩ hL hpre
    match i,hi with
    | 0,_=>
     simp at ho
     subst ho
     obtain rfl:=TT.lb (by cases e:L 9 with | false=>rfl | true=>exact absurd ((TT.lo e).1) (by rw[hL]; decide))
     go_simp
     exact⟨_,u1,u2,u3,u4,u5,u6,u7,_,rfl,TT.set0⟩
    | 1,_=>
     simp at ho
     subst ho
     go_simp
     exact⟨u0,_,u2,u3,u4,u5,u6,u7,v2,rfl,TT.set1⟩
    | 2,_=>
     simp at ho
     subst ho
     obtain rfl:=TT.fa0 (hpre 0 (by kernel_rfl))
     obtain rfl:=TT.fa1 (hpre 1 (by kernel_rfl))
     go_simp
     exact⟨_,_,_,u3,u4,u5,u6,u7,v2,rfl,TT.set2⟩
    | 3,_=>
     simp at ho
     subst ho
     obtain rfl:=TT.fa2 (hpre 2 (by kernel_rfl))
     go_simp
     exact⟨u0,u1,_,_,u4,u5,u6,u7,v2,rfl,TT.set3⟩
    | 4,_=>
     simp at ho
     subst ho
     obtain rfl:=TT.fa3 (hpre 3 (by kernel_rfl))
     refine wp_load_mid 24 (.tmp 48) rfl w5.heap.size (a * 34) rfl (Pt.pV pa) _ (HR6.out w' TT.wd.g) Pt.undP rfl (Pt.sizeP pa) ?_
     simp only[Act.put,aA]
     exact⟨u0,u1,u2,_,_,u5,u6,u7,v2,rfl,TT.set4⟩
    | 5,_=>
     simp at ho
     subst ho
     obtain rfl:=TT.lb (by cases e:L 9 with | false=>rfl | true=>exact absurd ((TT.lo e).2) (by rw[hL]; decide))
     go_simp
     exact⟨u0,u1,u2,u3,u4,_,u6,u7,_,rfl,TT.set5⟩
    | 6,_=>
     simp at ho
     subst ho
     go_simp
     exact⟨u0,u1,u2,u3,u4,u5,_,u7,v2,rfl,TT.set6⟩
    | 7,_=>
     simp at ho
     subst ho
     obtain rfl:=TT.fa5 (hpre 5 (by kernel_rfl))
     obtain rfl:=TT.fa6 (hpre 6 (by kernel_rfl))
     go_simp
     exact⟨u0,u1,u2,u3,u4,_,_,_,v2,rfl,TT.set7⟩
    | 8,_=>
     simp at ho
     subst ho
     obtain rfl:=TT.fa4 (hpre 4 (by kernel_rfl))
     refine wp_store_row 24 (.tmp 8) (.tmp 49) rfl b8 (Pt.pV pa).toArray rfl rfl 24 _ (TT.wd.row hL) (Pt.sizeP' _) rfl (Pt.pV_all _) ?_
     simp only[Act.put]
     exact⟨u0,u1,u2,u3,_,u5,u6,u7,v2,rfl,TT.set8 (TT.wd.store hL)⟩
    | 9,_=>
     simp at ho
     subst ho
     obtain rfl:=TT.fa7 (hpre 7 (by kernel_rfl))
     go_simp
     exact⟨u0,u1,u2,u3,u4,u5,u6,_,_,rfl,TT.set9 (hpre 0 (by kernel_rfl)) (hpre 5 (by kernel_rfl))⟩
    | i+10,h=>omega
   case fin=>
    rintro L a' w' hall ⟨u0,u1,u2,u3,u4,u5,u6,u7,v2,rfl,TT⟩
    have hWD:=TT.wd
    rw[hall 8 (by omega)] at hWD
    obtain rfl:=TT.fa4 (hall 4 (by omega))
    obtain rfl:=TT.la (hall 9 (by omega))
    clear TT
    refine wpList_nil ?_
    have HWD:=Lib.hid hWD
    have HL7:Hid (LfW w V q X f b8 (U.ch a).root w'):=Lib.hid (by
     rw[←HRT.out]
     exact HL6.out.store HWD.out.g HWD.out.r)
    clear hWD HR6 HROW HWD HL6 H6 HRT HQA
    go_wp2_with fail
    go_roundw
    case rel=>exact⟨b,j',U.ch a,rfl,by go_num,by omega,by rw[HNW.out]; exact hb,Lib.hid ⟨HUC.out,HOC.out,HUA'.out,HL7.out⟩⟩
    case measure=>simp[intOf]
end St
end Go.Proofs.YteaocagepfgfnaaGreatDoor
