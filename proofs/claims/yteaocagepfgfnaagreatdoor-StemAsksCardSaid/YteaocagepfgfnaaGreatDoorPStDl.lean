import Derived.Test.YteaocagepfgfnaaGreatDoorPStDi
import Derived.Test.YteaocagepfgfnaaGreatDoorPStX
import Derived.Test.YteaocagepfgfnaaGreatDoorPAl
set_option maxRecDepth 100000
set_option maxHeartbeats 8000000
namespace Go.Proofs.YteaocagepfgfnaaGreatDoor
namespace St
open Go.RowKit Go.Shelf Dk Gm Eqb Rm Di Vl Qv Sp
open Vm (HasVol vM)
attribute [local go_sem] Pt.zvP Pt.zv3 zv29
attribute [local go_sem] Pt.zc3 zc29
theorem row_sV{w:World}{b:Nat}{p:Pt.Pn}{s c:Int}{t:TypeId}(h:w.heap[b]?=some (.cells (sV p s c).toArray t (0,0))):w.rangeAt b 0 (sV p s c):=fun j v hv=>by
 rw[cell_of_row _ _ _ _ _ _ h,Nat.zero_add]
 simpa using hv
section
variable {w:World}{V:Pl}{n k:Nat}{X:Dst}{M:Tab}{A B Z:Int}{f:Nat→Int}
end
theorem wNw{ops:Array Oper}{rest:List Oper}{o:Oper}{a:Act}{w:World}{Q:Exit→Act→World→Prop}(hgd:o.guard=none)(ty:TypeId)(x y:Operand)(ho:o.op=.store ty x y)
  (g:Nat) (cells:Array Value) (hx:a.eval x=.pointer (some ⟨g,0,none⟩)) (hy:a.eval y=.agg cells) (hg:g=w.heap.size) (old:Array Value) (hold:old.size=cells.size) (hi:(Tryz.prog.info? ty).map (·.size)=some cells.size)
  (h1:cells.all (·.oneCell')=true) (h:wpList Tryz.prog ops Q rest (a.put o.dst undef) (w.alloc (.cells cells ty))):wpList Tryz.prog ops Q (o :: rest) a (w.alloc (.cells old ty)):=by
 subst hg
 refine wpList_store_row hgd ty x y ho w.heap.size cells hx hy ty old (heap_alloc_new w _) hi hold h1 ?_
 rw[World.setRow_alloc_new]
 exact h
theorem built_wk(V:Pl)(p:Pt.Pn)(s c:Int):Tryz.prog.built 91 [(0,.pointer (some ⟨V.b,V.o,none⟩)),(1,.agg (sV p s c).toArray)]=some (wkC V (sV p s c) (.slice none 0 0)).toArray:=by kernel_rfl
theorem wkC_one(V:Pl)(p:Pt.Pn)(s c:Int):(wkC V (sV p s c) (.slice none 0 0)).toArray.all (·.oneCell')=true:=all_oneCell_toArray (by
 intro v hv
 simp only[wkC,List.mem_cons,List.mem_append,List.not_mem_nil,or_false] at hv
 rcases hv with rfl | hv | rfl
 ·rfl
 ·exact sV_one p s c v hv
 ·rfl)
theorem size_wk0(V:Pl)(p:Pt.Pn)(s c:Int)(gv:Value):(wkC V (sV p s c) gv).toArray.size=38:=by rw[List.size_toArray,wkC_len]
theorem size_wk(V:Pl)(p:Pt.Pn)(s c:Int)(gv:Value):(Tryz.prog.info? 91).map (·.size)=some (wkC V (sV p s c) gv).toArray.size:=by
 rw[List.size_toArray,wkC_len]
 kernel_rfl
theorem und_sp:∃d,Tryz.prog.underlying 41=some d∧d.isRow=true:=⟨_,rfl,rfl⟩
theorem size_sp(A B Z:Int)(ao:Option Addr)(k kc:Nat):(Tryz.prog.info? 41).map (·.size)=some (Vm.spC A B Z ao k kc).length:=by show _=some 4; kernel_rfl
section
variable {q:Qt}{X X':Dst}{f f':Nat→Int}{w:World}{V:Pl}
theorem all_sp(A B Z:Int)(ao:Option Addr)(k kc:Nat):(#[.int .i64 A,.int .i64 B,.int .i64 Z,.slice ao k kc]:Array Value).all (·.oneCell')=true:=all_oneCell_toArray (cs:=[.int .i64 A,.int .i64 B,.int .i64 Z,.slice ao k kc]) (by
 intro v hv
 simp only[List.mem_cons,List.not_mem_nil,or_false] at hv
 rcases hv with rfl | rfl | rfl | rfl <;> rfl)
theorem Sw.from{w1 w2:World}{sb:Nat}{st:List Value}(h:Sw w1 V sb q X f st w2)(hb:Below w.heap.size w w1)(hvl:V.b < w.heap.size):Sw w V sb q X f st w2:=
 ⟨h.v,h.s,h.fs,Nat.le_trans hb.size h.sz,h.os.trans hb.os,h.tp.trans hb.tape,h.ou.trans hb.output,fun k hk k1 k2=>(h.blk k (by have:=hb.size; omega) k1 k2).trans (hb.block k hk),(Vl.Loc.below hb hvl).trans h.loc hb.size,h.kp⟩
theorem change_err(hv:HV w V q X f)(hk:Rm.Kp w)(p:Pt.Pn)(s c:Int)(hpA:Sp.i64 p.A)(hpB:Sp.i64 p.B){sb:Nat}(hs:w.heap[sb]?=some (.cells (sV p s c).toArray 26 (0,0)))(ho:Off w V sb)(_h0:sb≠0)
  (hn:(rsB p s c && mn (nq q) X vM 28 (bq q) (zq q) (kq q) f p)=true) (F:FuncId) (cap:Array Value) (hF:Enters Tryz.prog F) {p2:Pt.Pn} {s2 c2:Int} {E:Int} {G:List Pt.Pn} (hE:E≠0) (hdo:∀(w':World) (wb:Nat),Below w.heap.size w w'→(∀b,b < w.heap.size→Off w V b→Lk V wb (.slice none 0 0) w' b)→Wt w' V wb (.slice none 0 0) q X f (sV p s c) (.slice none 0 0) [] w'→Calls Tryz.prog F (#[.pointer (some ⟨wb,0,none⟩)] ++ cap) w' fun e w''=>∃gv2,e=.returned (.int .i64 E)∧Wt w' V wb (.slice none 0 0) q X' f' (sV p2 s2 c2) gv2 G w'') :
  Calls Tryz.prog 45 #[.pointer (some ⟨V.b,V.o,none⟩),.pointer (some ⟨sb,0,none⟩),.func (.func F) #[] cap] w fun e w'=>e=.returned (.int .i64 E)∧Sw w V sb q X' f (sV p s c) w':=by
 have HON:=Lib.hid (on_any hv tabM (i64_b q) p s c hpA hpB)
 have hr:=row_sV hs
 obtain⟨dsp,us1,us2⟩:=und_sp
 have hEN:=hF
 unfold Enters at hEN
 have hvl:=hv.lt
 have HDO:=Lib.hid hdo
 clear hdo
 go_enter Tryz.func45,Tryz.ntmps45
 go_wp2_with (first | (refine wG (by rfl) 26 (.tmp 15) rfl sb 0 rfl (sV p s c) _ (by exact hr) undS rfl (sizeS p s c) ?_; simp only[Act.put,aA]))
 refine HON.out.mono ?_
 rintro _ w1 ⟨rfl,hb⟩
 rw[hn]
 dsimp only
 have lb:=(Array.getElem?_eq_some_iff.1 hs).1
 have hv1:=hv.below hb
 have hk1:=hk.below hb
 have hs1:=(hb.block sb lb).trans hs
 have ho1:=ho.below hvl hb
 obtain⟨sa,sc,ca,cc,pa,cp,ao,kc,hx⟩:=HasVol.open' hv1
 have hrs:w1.rangeAt V.b (V.o+6) [.int .i64 28,.int .i64 (bq q),.int .i64 (zq q),.slice ao (kq q) kc]:=fun j v hj=>by
  have hj4:j < 4:=(List.getElem?_eq_some_iff.1 hj).1
  have:=hx.at'.cell (j:=6+j) (by simp; omega)
  rw[Nat.add_assoc,this]
  rw[←hj]
  match j,hj4 with
  | 0,_=>rfl
  | 1,_=>rfl
  | 2,_=>rfl
  | 3,_=>rfl
 have hr2:∀o,(w1.alloc o).rangeAt sb 0 (sV p s c):=fun o=>row_sV ((Below.heap_alloc w1 o sb (by have:=hb.size; omega)).trans hs1)
 have hbw:=built_wk V p s c
 obtain⟨m1,m2,m3,m4,m5⟩:=wt_make hv1 hk1 (.cells #[.int .i64 28,.int .i64 (bq q),.int .i64 (zq q),.slice ao (kq q) kc] 41) (sV p s c)
 have HM1:=Lib.hid m1
 have HM2:=Lib.hid m2
 have HM3:=Lib.hid m3
 have HM4:=Lib.hid m4
 have HM5:=Lib.hid m5
 have HX:=Lib.hid hx
 have HB:=Lib.hid hb
 have HO:=Lib.hid (And.intro ho ho1)
 have HS:=Lib.hid hs1
 clear m1 m2 m3 m4 m5 hx hb hs hs1 ho ho1 hr HON
 go_wp2_with (first
  | (refine wpList_load_mid rfl 41 (.tmp 22) rfl V.b (V.o+6) rfl [.int .i64 28,.int .i64 (bq q),.int .i64 (zq q),.slice ao (kq q) kc] _ (by exact hrs) us1 us2 (size_sp 28 (bq q) (zq q) ao (kq q) kc) ?_; simp only[Act.put,aA])
  | (refine wpList_load_mid rfl 26 (.tmp 26) rfl sb 0 rfl (sV p s c) _ (by exact hr2 _) undS rfl (sizeS p s c) ?_; simp only[Act.put,aA])
  | (refine wpList_build2 rfl 91 0 1 (.tmp 24) (.tmp 27) rfl (some 28) rfl _ _ rfl rfl (wkC V (sV p s c) (.slice none 0 0)).toArray hbw ?_; simp only[Act.put,aA])
  | (refine wNw rfl 91 (.tmp 8) (.tmp 28) rfl _ (wkC V (sV p s c) (.slice none 0 0)).toArray rfl rfl (by simp) _ (by rw[size_wk0]; rfl) (size_wk V p s c _) (wkC_one V p s c) ?_; simp only[Act.put]))
 generalize (w1.alloc (.cells #[.int .i64 28,.int .i64 (bq q),.int .i64 (zq q),.slice ao (kq q) kc] 41)).alloc (.cells (wkC V (sV p s c) (.slice none 0 0)).toArray 91)=W at HM1 HM2 HM3 HM4 HM5 ⊢
 have hlt:w1.heap.size+1 < W.heap.size:=(Array.getElem?_eq_some_iff.1 HM1.out.b).1
 refine(HDO.out W (w1.heap.size+1) (HB.out.trans (HM2.out.mono HB.out.size)) (fun b hb1 hob=>HM4.out b (by have:=HB.out.size; omega) (hob.below hvl HB.out)) HM1.out).mono ?_
 rintro _ w2 ⟨gv2,rfl,hT⟩
 dsimp only
 clear hrs hr2 hbw
 have hE1:(E == 0)=false:=beq_eq_false_iff_ne.2 hE
 have hE2:(E != 0)=true:=by rw[bne,hE1]; rfl
 have hrb:w2.rangeAt w1.heap.size 0 [.int .i64 28,.int .i64 (bq q),.int .i64 (zq q),.slice ao (kq q) kc]:=fun j v hj=>by
  rw[cell_of_row _ _ _ _ _ _ ((hT.keep HM5.out).1.trans HM3.out),Nat.zero_add]
  simpa using hj
 have hth:=sp_there (l:=[.int .i64 28,.int .i64 (bq q),.int .i64 (zq q),.slice ao (kq q) kc]) hT.v rfl
 have HF:=Lib.hid ((Sw.err hv1 HM2.out hT HS.out HO.out.2 hlt HX.out).from HB.out hvl)
 clear hT HM1 HM2 HM3 HM4 HM5 HX HB HO HS HDO
 go_wp2_with (first
  | (refine wpList_load_mid rfl 41 (.tmp 7) rfl w1.heap.size 0 rfl [.int .i64 28,.int .i64 (bq q),.int .i64 (zq q),.slice ao (kq q) kc] dsp (by exact hrb) us1 us2 (size_sp 28 (bq q) (zq q) ao (kq q) kc) ?_; simp only[Act.put,aA])
  | (refine wpList_store_mid rfl 41 (.tmp 39) (.tmp 37) rfl V.b (V.o+6) #[.int .i64 28,.int .i64 (bq q),.int .i64 (zq q),.slice ao (kq q) kc] rfl rfl (by exact hth) (size_sp 28 (bq q) (zq q) ao (kq q) kc) (all_sp 28 (bq q) (zq q) ao (kq q) kc) ?_; simp only[Act.put]))
 go_ret
 exact⟨rfl,HF.out⟩
theorem change_ok(hv:HV w V q X f)(hk:Rm.Kp w)(p:Pt.Pn)(s c:Int)(hpA:Sp.i64 p.A)(hpB:Sp.i64 p.B){sb:Nat}(hs:w.heap[sb]?=some (.cells (sV p s c).toArray 26 (0,0)))(ho:Off w V sb)(h0:sb≠0)
  (hn:(rsB p s c && mn (nq q) X vM 28 (bq q) (zq q) (kq q) f p)=true) (F:FuncId) (cap:Array Value) (hF:Enters Tryz.prog F) {p2:Pt.Pn} {s2 c2:Int} {E:Int} {G:List Pt.Pn} (hE:E=0) (hG:G.length≤1000000) (fs:Nat→Nat→Int) (hf0:fs 0=f') (HD:∀j p,G[j]?=some p→∀w',Rm.Kp w'→HV w' V q X' (fs j)→Calls Tryz.prog 106 #[.pointer (some ⟨V.b,V.o,none⟩),.agg (Pt.pV p).toArray] w' fun e w''=>e=.returned (.int .i64 0)∧TV w' V q X' (fs (j+1)) w'') (hdo:∀(w':World) (wb:Nat),Below w.heap.size w w'→(∀b,b < w.heap.size→Off w V b→Lk V wb (.slice none 0 0) w' b)→Wt w' V wb (.slice none 0 0) q X f (sV p s c) (.slice none 0 0) [] w'→Calls Tryz.prog F (#[.pointer (some ⟨wb,0,none⟩)] ++ cap) w' fun e w''=>∃gv2,e=.returned (.int .i64 E)∧Wt w' V wb (.slice none 0 0) q X' f' (sV p2 s2 c2) gv2 G w'') :
  Calls Tryz.prog 45 #[.pointer (some ⟨V.b,V.o,none⟩),.pointer (some ⟨sb,0,none⟩),.func (.func F) #[] cap] w fun e w'=>e=.returned (.int .i64 0)∧Sw w V sb q X' (fs G.length) (sV p2 s2 c2) w':=by
 have HON:=Lib.hid (on_any hv tabM (i64_b q) p s c hpA hpB)
 have hr:=row_sV hs
 obtain⟨dsp,us1,us2⟩:=und_sp
 have hEN:=hF
 unfold Enters at hEN
 have hvl:=hv.lt
 have HDO:=Lib.hid hdo
 clear hdo
 go_enter Tryz.func45,Tryz.ntmps45
 go_wp2_with (first | (refine wG (by rfl) 26 (.tmp 15) rfl sb 0 rfl (sV p s c) _ (by exact hr) undS rfl (sizeS p s c) ?_; simp only[Act.put,aA]))
 refine HON.out.mono ?_
 rintro _ w1 ⟨rfl,hb⟩
 rw[hn]
 dsimp only
 have lb:=(Array.getElem?_eq_some_iff.1 hs).1
 have hv1:=hv.below hb
 have hk1:=hk.below hb
 have hs1:=(hb.block sb lb).trans hs
 have ho1:=ho.below hvl hb
 obtain⟨sa,sc,ca,cc,pa,cp,ao,kc,hx⟩:=HasVol.open' hv1
 have hrs:w1.rangeAt V.b (V.o+6) [.int .i64 28,.int .i64 (bq q),.int .i64 (zq q),.slice ao (kq q) kc]:=fun j v hj=>by
  have hj4:j < 4:=(List.getElem?_eq_some_iff.1 hj).1
  have:=hx.at'.cell (j:=6+j) (by simp; omega)
  rw[Nat.add_assoc,this]
  rw[←hj]
  match j,hj4 with
  | 0,_=>rfl
  | 1,_=>rfl
  | 2,_=>rfl
  | 3,_=>rfl
 have hr2:∀o,(w1.alloc o).rangeAt sb 0 (sV p s c):=fun o=>row_sV ((Below.heap_alloc w1 o sb (by have:=hb.size; omega)).trans hs1)
 have hbw:=built_wk V p s c
 obtain⟨m1,m2,m3,m4,m5⟩:=wt_make hv1 hk1 (.cells #[.int .i64 28,.int .i64 (bq q),.int .i64 (zq q),.slice ao (kq q) kc] 41) (sV p s c)
 have HM1:=Lib.hid m1
 have HM2:=Lib.hid m2
 have HM3:=Lib.hid m3
 have HM4:=Lib.hid m4
 have HM5:=Lib.hid m5
 have HX:=Lib.hid hx
 have HB:=Lib.hid hb
 have HO:=Lib.hid (And.intro ho ho1)
 have HS:=Lib.hid hs1
 clear m1 m2 m3 m4 m5 hx hb hs hs1 ho ho1 hr HON
 go_wp2_with (first
  | (refine wpList_load_mid rfl 41 (.tmp 22) rfl V.b (V.o+6) rfl [.int .i64 28,.int .i64 (bq q),.int .i64 (zq q),.slice ao (kq q) kc] _ (by exact hrs) us1 us2 (size_sp 28 (bq q) (zq q) ao (kq q) kc) ?_; simp only[Act.put,aA])
  | (refine wpList_load_mid rfl 26 (.tmp 26) rfl sb 0 rfl (sV p s c) _ (by exact hr2 _) undS rfl (sizeS p s c) ?_; simp only[Act.put,aA])
  | (refine wpList_build2 rfl 91 0 1 (.tmp 24) (.tmp 27) rfl (some 28) rfl _ _ rfl rfl (wkC V (sV p s c) (.slice none 0 0)).toArray hbw ?_; simp only[Act.put,aA])
  | (refine wNw rfl 91 (.tmp 8) (.tmp 28) rfl _ (wkC V (sV p s c) (.slice none 0 0)).toArray rfl rfl (by simp) _ (by rw[size_wk0]; rfl) (size_wk V p s c _) (wkC_one V p s c) ?_; simp only[Act.put]))
 generalize (w1.alloc (.cells #[.int .i64 28,.int .i64 (bq q),.int .i64 (zq q),.slice ao (kq q) kc] 41)).alloc (.cells (wkC V (sV p s c) (.slice none 0 0)).toArray 91)=W at HM1 HM2 HM3 HM4 HM5 ⊢
 have hlt:w1.heap.size+1 < W.heap.size:=(Array.getElem?_eq_some_iff.1 HM1.out.b).1
 refine(HDO.out W (w1.heap.size+1) (HB.out.trans (HM2.out.mono HB.out.size)) (fun b hb1 hob=>HM4.out b (by have:=HB.out.size; omega) (hob.below hvl HB.out)) HM1.out).mono ?_
 rintro _ w2 ⟨gv2,rfl,hT⟩
 dsimp only
 clear hrs hr2 hbw
 subst hE
 have HDR:=Lib.hid (drop_any hT.self (sV_length p2 s2 c2) hG fs hf0 HD)
 have HT:=Lib.hid hT
 clear hT HD HM3 HM4 HM5 HX HDO
 go_wp2_with fail
 refine HDR.out.mono ?_
 rintro _ w3 ⟨rfl,hT3⟩
 dsimp only
 have hT4:=HT.out.trans hT3
 obtain⟨hr3,hS⟩:=Sw.ok (st3:=sV p2 s2 c2) HM2.out hT4 HS.out HO.out.2 hv1.lt hlt h0 (by rw[sV_length,sV_length])
 have HF:=Lib.hid (hS.from HB.out hvl)
 have hrg:=hT4.rngS
 clear hT3 hT4 hS HM1 HM2 HB HO HS HT HDR
 go_wp2_with (first
  | (refine wpList_load_mid rfl 26 (.tmp 42) rfl (w1.heap.size+1) 1 rfl (sV p2 s2 c2) _ (by exact hrg) undS rfl (sizeS p2 s2 c2) ?_; simp only[Act.put,aA])
  | (refine wpList_store_row rfl 26 (.tmp 44) (.tmp 43) rfl sb (sV p2 s2 c2).toArray rfl rfl 26 _ hr3 (by rw[List.size_toArray]; exact sizeS p2 s2 c2) (by rw[List.size_toArray,List.size_toArray,sV_length,sV_length]) (all_oneCell_toArray (sV_one p2 s2 c2)) ?_; simp only[Act.put]))
 go_ret
 exact⟨rfl,HF.out⟩
end
end St
namespace St
open Go.RowKit Go.Shelf Dk Gm Eqb Rm Di Vl Qv Sp
open Vm (HasVol vM)
section
variable {w:World}{V:Pl}{sb:Nat}{E:Int}{Q:World→Prop}
theorem Lay_walk(i:Int)(D:Nat→Int)(hc:Calls Tryz.prog 45 #[.pointer (some ⟨V.b,V.o,none⟩),.pointer (some ⟨sb,0,none⟩),.func (.func 46) #[] #[.pointer (some ⟨w.heap.size,0,none⟩),.pointer (some ⟨w.heap.size+1,0,none⟩)]] ((w.alloc (.cells #[.int .i64 i] 3)).alloc (.cells (bl D).toArray 47)) fun e w'=>e=.returned (.int .i64 E)∧Q w') :
  Calls Tryz.prog 17 #[.pointer (some ⟨V.b,V.o,none⟩),.pointer (some ⟨sb,0,none⟩),.int .i64 i,.agg (bl D).toArray] w fun e w'=>e=.returned (.int .i64 E)∧Q w':=by
 have HC:=Lib.hid hc
 clear hc
 go_enter Tryz.func17,Tryz.ntmps17
 go_wp2_with fail
 refine HC.out.mono ?_
 rintro _ w1 ⟨rfl,hq⟩
 dsimp only
 go_wp2_with fail
 go_ret
 exact⟨rfl,hq⟩
theorem Resize_walk(n:Int)(hc:Calls Tryz.prog 45 #[.pointer (some ⟨V.b,V.o,none⟩),.pointer (some ⟨sb,0,none⟩),.func (.func 48) #[] #[.pointer (some ⟨w.heap.size,0,none⟩)]] (w.alloc (.cells #[.int .i64 n] 3)) fun e w'=>e=.returned (.int .i64 E)∧Q w') :
  Calls Tryz.prog 18 #[.pointer (some ⟨V.b,V.o,none⟩),.pointer (some ⟨sb,0,none⟩),.int .i64 n] w fun e w'=>e=.returned (.int .i64 E)∧Q w':=by
 have HC:=Lib.hid hc
 clear hc
 go_enter Tryz.func18,Tryz.ntmps18
 go_wp2_with fail
 refine HC.out.mono ?_
 rintro _ w1 ⟨rfl,hq⟩
 dsimp only
 go_wp2_with fail
 go_ret
 exact⟨rfl,hq⟩
end
end St
namespace St
open Go.RowKit Go.Shelf Dk Gm Eqb Rm Di Vl Qv Sp
open Vm (HasVol vM)
variable {q:Qt}{X:Dst}{f:Nat→Int}
structure Hs(q:Qt)(c:Nat)(P:(Nat→Int)→Prop)(s0:Int)(T:Tr)(R:List Hd)(X:Dst)(f:Nat→Int):Prop where
 py:Py q X f (T.held ++ R)
 ok:T.ok (dpN (lvI s0).toNat)
 cp:T.cp c
 al:T.all P
 sz:szB s0=true
 cc:c=1∨c=2
theorem Hs.on{c:Nat}{P:(Nat→Int)→Prop}{s0:Int}{T:Tr}{R:List Hd}(_:Hs q c P s0 T R X f):T.on (T.held ++ R):=fun _ hx=>List.mem_append_left _ hx
theorem Hs.dp{c:Nat}{P:(Nat→Int)→Prop}{s0:Int}{T:Tr}{R:List Hd}(h:Hs q c P s0 T R X f):dpN (lvI s0).toNat≤4:=by
 obtain⟨_,_,h1,h2⟩:=lvI_szB h.sz
 refine dpN_wd ?_
 have:wd 4=81:=rfl
 omega
theorem Hs.len{c:Nat}{P:(Nat→Int)→Prop}{s0:Int}{T:Tr}{R:List Hd}(h:Hs q c P s0 T R X f):T.held.length≤200:=by
 have h1:=held_len h.ok
 have h2:=wd_mono h.dp
 have:wd 4=81:=rfl
 omega
theorem Hs.mine{c:Nat}{P:(Nat→Int)→Prop}{s0:Int}{T:Tr}{R:List Hd}(h:Hs q c P s0 T R X f):(rsB T.root s0 c && mn (nq q) X vM 28 (bq q) (zq q) (kq q) f T.root)=true:=by
 obtain⟨_,_,h1,h2,_⟩:=root_mine h.py h.ok h.on
 have hal:alB (c:Int)=true:=by
  rcases h.cc with e | e <;> subst e <;> rfl
 unfold rsB
 rw[h1,h2,h.sz,hal]
 rfl
theorem enters_layf:Enters Tryz.prog 46:=fun args w=>enters_of Tryz.func46 (by kernel_rfl) rfl args w
theorem two_box{w:World}{V:Pl}{sb:Nat}{cs:Array Value}{t:TypeId}(hv:HV w V q X f)(hk:Rm.Kp w)(hs:w.heap[sb]?=some (.cells cs t (0,0)))(ho:Off w V sb)(o1 o2:Obj) :
  Below w.heap.size w ((w.alloc o1).alloc o2)∧HV ((w.alloc o1).alloc o2) V q X f∧Rm.Kp ((w.alloc o1).alloc o2)∧((w.alloc o1).alloc o2).heap[sb]?=some (.cells cs t (0,0))∧Off ((w.alloc o1).alloc o2) V sb∧
  ((w.alloc o1).alloc o2).heap[w.heap.size]?=some o1∧((w.alloc o1).alloc o2).heap[w.heap.size+1]?=some o2∧Off ((w.alloc o1).alloc o2) V w.heap.size∧Off ((w.alloc o1).alloc o2) V (w.heap.size+1)∧w.heap.size+1 < ((w.alloc o1).alloc o2).heap.size:=by
 have hb:Below w.heap.size w ((w.alloc o1).alloc o2):=((Below.refl _ _).alloc (Nat.le_refl _) _).alloc (by simp) _
 have hvl:=hv.lt
 have lb:=(Array.getElem?_eq_some_iff.1 hs).1
 have h1:=heap_alloc_new w o1
 have h2:=heap_alloc_new (w.alloc o1) o2
 have hsz:(w.alloc o1).heap.size=w.heap.size+1:=by simp
 rw[hsz] at h2
 exact⟨hb,hv.below hb,hk.below hb,(hb.block sb lb).trans hs,ho.below hvl hb,(Below.heap_alloc _ _ _ (by simp)).trans h1,h2,(Off.new hv (kq0 q) (Nat.le_refl _)).below hvl hb,(Off.new hv (kq0 q) (by omega)).below hvl hb,by simp⟩
theorem lay_full{c:Nat}{P:(Nat→Int)→Prop}(hPc:Apt P){D:Nat→Int}(hD:Di.byt D)(hPD:P D){s0:Int}{T:Tr}{R:List Hd}(h:Hs q c P s0 T R X f){i:Nat}(hi:(i:Int) < lvI s0)(hm:X.m+10≤90000) :
  ∃X' f' T' E,X'.m≤X.m+10∧Hs q c P s0 T' R X' f'∧(E≠0→E=9∧¬ Rm2 q f 5∧T'=T∧f'=f)∧
   (E=0→(∀j,j < wd (dpN (lvI s0).toNat)→bl (T'.at (dpN (lvI s0).toNat) j)=if j=i then bl D else bl (T.at (dpN (lvI s0).toNat) j))∧∀n,Rm2 q f (n+5)→Rm2 q f' n)∧
   ∀(w:World) (V:Pl) (sb:Nat),HV w V q X f→Rm.Kp w→w.heap[sb]?=some (.cells (sV T.root s0 c).toArray 26 (0,0))→Off w V sb→sb≠0→
    Calls Tryz.prog 17 #[.pointer (some ⟨V.b,V.o,none⟩),.pointer (some ⟨sb,0,none⟩),.int .i64 (i:Int),.agg (bl D).toArray] w fun e w'=>e=.returned (.int .i64 E)∧Sw w V sb q X' f' (sV T'.root s0 c) w':=by
 obtain⟨hs1,hs2,hl1,hl2⟩:=lvI_szB h.sz
 have hdp:=h.dp
 have hlen:=h.len
 have hi2:i < wd (dpN (lvI s0).toNat):=Nat.lt_of_lt_of_le (by omega) (wd_dpN _)
 obtain⟨X',f1,N,T',g,E,rp,k1,k2,k3⟩:=lay_t h.cc hPc hD hPD T.root s0 (dpN (lvI s0).toNat) T i X f (T.held ++ R) (by omega) h.py h.ok h.on h.cp h.al hi2 (by omega)
 have hgl:=k1.gl
 have hXm:=k1.m
 obtain⟨hA,hB,hmn,_⟩:=root_mine h.py h.ok h.on
 have hon:=h.mine
 have hhs:hsB s0 (i:Int)=true:=by
  unfold hsB
  rw[decide_eq_true (by omega),decide_eq_true hi]
  rfl
 have hdo:∀(w W':World) (V:Pl) (wb:Nat),Below w.heap.size w ((w.alloc (.cells #[.int .i64 (i:Int)] 3)).alloc (.cells (bl D).toArray 47))→HV w V q X f→
   Below ((w.alloc (.cells #[.int .i64 (i:Int)] 3)).alloc (.cells (bl D).toArray 47)).heap.size ((w.alloc (.cells #[.int .i64 (i:Int)] 3)).alloc (.cells (bl D).toArray 47)) W'→
   (∀b,b < ((w.alloc (.cells #[.int .i64 (i:Int)] 3)).alloc (.cells (bl D).toArray 47)).heap.size→Off ((w.alloc (.cells #[.int .i64 (i:Int)] 3)).alloc (.cells (bl D).toArray 47)) V b→Lk V wb (.slice none 0 0) W' b)→
   Wt W' V wb (.slice none 0 0) q X f (sV T.root s0 c) (.slice none 0 0) [] W'→
   Calls Tryz.prog 46 (#[.pointer (some ⟨wb,0,none⟩)] ++ #[.pointer (some ⟨w.heap.size,0,none⟩),.pointer (some ⟨w.heap.size+1,0,none⟩)]) W' fun e w''=>∃gv2,e=.returned (.int .i64 E)∧Wt W' V wb (.slice none 0 0) q X' f1 (sV rp s0 c) gv2 g w'':=by
  intro w W' V wb hb hv hbW hLk hW'
  have hvl:=hv.lt
  have h1:=heap_alloc_new w (.cells #[.int .i64 (i:Int)] 3)
  have h2:=heap_alloc_new (w.alloc (.cells #[.int .i64 (i:Int)] 3)) (.cells (bl D).toArray 47)
  have hsz:(w.alloc (.cells #[.int .i64 (i:Int)] 3)).heap.size=w.heap.size+1:=by simp
  rw[hsz] at h2
  have h1':=(Below.heap_alloc (w.alloc (.cells #[.int .i64 (i:Int)] 3)) (.cells (bl D).toArray 47) w.heap.size (by simp)).trans h1
  have hlt:w.heap.size+1 < ((w.alloc (.cells #[.int .i64 (i:Int)] 3)).alloc (.cells (bl D).toArray 47)).heap.size:=by simp
  have ho1:Off ((w.alloc (.cells #[.int .i64 (i:Int)] 3)).alloc (.cells (bl D).toArray 47)) V w.heap.size:=(Off.new hv (kq0 q) (Nat.le_refl _)).below hvl hb
  have ho2:Off ((w.alloc (.cells #[.int .i64 (i:Int)] 3)).alloc (.cells (bl D).toArray 47)) V (w.heap.size+1):=(Off.new hv (kq0 q) (by omega)).below hvl hb
  exact layf_go hW' (by omega) (hLk _ (by omega) ho1) ((hbW.block _ (by omega)).trans h1') (hLk _ hlt ho2) ((hbW.block _ hlt).trans h2) hhs fun w3 hw3=>by
   refine(k3 w3 V wb (.slice none 0 0) [] hw3.self (by simp; omega)).mono ?_
   rintro e w4 ⟨gv2,a1,a2⟩
   exact⟨gv2,a1,a2⟩
 by_cases hE:E=0
 ·obtain⟨e1,hR,hrm⟩:=k1.ok hE
  obtain⟨hal,hat⟩:=k2 hE
  obtain⟨gh,hp1,hp2⟩:=hR.pm
  have hperm:(T.held ++ R ++ N).Perm ((T'.held ++ R) ++ gh):=by
   have a1:(T.held ++ R ++ N).Perm (T.held ++ N ++ R):=by
    rw[List.append_assoc,List.append_assoc]
    exact List.Perm.append_left _ List.perm_append_comm
   have a2:(T.held ++ N ++ R).Perm (T'.held ++ gh ++ R):=hp1.append_right R
   have a3:(T'.held ++ gh ++ R).Perm (T'.held ++ R ++ gh):=by
    rw[List.append_assoc,List.append_assoc]
    exact List.Perm.append_left _ List.perm_append_comm
   exact a1.trans (a2.trans a3)
  obtain⟨fs,d1,d2,d3,d4⟩:=drop_t g f1 _ _ gh k1.py hperm hp2
  refine⟨X',fs g.length,T',E,by omega,⟨d2,hR.ok,hR.cp,hal,h.sz,h.cc⟩,fun e=>absurd hE e,fun _=>⟨hat,fun n hn=>d3 _ (hrm n (hn.le (by omega)))⟩,fun w V sb hv hk hs ho h0=>?_⟩
  obtain⟨b1,b2,b3,b4,b5,_⟩:=two_box hv hk hs ho (.cells #[.int .i64 (i:Int)] 3) (.cells (bl D).toArray 47)
  refine Lay_walk (i:Int) D ?_
  rw[←e1]
  refine(change_ok b2 b3 T.root s0 c hA hB b4 b5 h0 hon _ _ enters_layf hE (by omega) fs d1 (fun j p hj w' hk' hv'=>d4 V j p hj w' hk' hv') fun W' wb hbW hLk hW'=>hdo w W' V wb b1 hv hbW hLk hW').mono ?_
  rintro e w' ⟨a1,a2⟩
  exact⟨by rw[a1,hE],a2.from b1 hv.lt⟩
 ·obtain⟨e9,hnr⟩:=k1.no hE
  refine⟨X',f,T,E,by omega,⟨h.py.back k1.py,h.ok,h.cp,h.al,h.sz,h.cc⟩,fun _=>⟨e9,fun hr=>hnr (hr.le (by omega)),rfl,rfl⟩,fun e=>absurd e hE,fun w V sb hv hk hs ho h0=>?_⟩
  obtain⟨b1,b2,b3,b4,b5,_⟩:=two_box hv hk hs ho (.cells #[.int .i64 (i:Int)] 3) (.cells (bl D).toArray 47)
  refine Lay_walk (i:Int) D ?_
  refine(change_err b2 b3 T.root s0 c hA hB b4 b5 h0 hon _ _ enters_layf hE fun W' wb hbW hLk hW'=>hdo w W' V wb b1 hv hbW hLk hW').mono ?_
  rintro e w' ⟨a1,a2⟩
  exact⟨a1,a2.from b1 hv.lt⟩
end St
namespace St
open Go.RowKit Dk Gm Eqb Rm Di Vl Qv Sp
open Vm (HasVol vM)
attribute [local go_sem] Pt.zvP Pt.zv3 zv29
attribute [local go_sem] Pt.zc3 zc29
attribute [local irreducible] wpQuiet
variable {q:Qt}{X X':Dst}{f f':Nat→Int}
theorem sV_34(p:Pt.Pn)(s c:Int):(sV p s c)[34]?=some (.int .i64 s):=by
 unfold sV
 rw[List.getElem?_append_right (by rw[Pt.pL]; exact Nat.le_refl _),Pt.pL]
 rfl
section
variable {w w':World}{V:Pl}{wb:Nat}{gv gv0:Value}{G:List Pt.Pn}{p:Pt.Pn}{s c:Int}
theorem wkC_at2(V:Pl)(p:Pt.Pn)(s c:Int)(gv:Value)(j:Nat):(wkC V (sV p s c) gv)[j]?=if j=35 then some (.int .i64 s) else if j=36 then some (.int .i64 c) else if j=37 then some gv else if j < 35 then (wkC V (sV p 0 0) gv)[j]? else none:=by
 rw[wkC_at,wkC_at]
 by_cases h:j < 35
 ·rw[if_neg (show ¬ j=35 by omega),if_neg (show ¬ j=36 by omega),if_neg (show ¬ j=37 by omega),if_pos h,if_pos h,if_pos h]
 ·rw[if_neg (by omega),if_neg h,if_neg h]
  by_cases h1:j=35
  ·subst h1; rfl
  ·by_cases h2:j=36
   ·subst h2; rfl
   ·by_cases h3:j=37
    ·subst h3; rfl
    ·rw[if_neg h1,if_neg h2,if_neg h3]
     exact List.getElem?_eq_none (by show 3≤j - 35; omega)
theorem wk_set{t:TypeId}(h:w.heap[wb]?=some (.cells (wkC V (sV p s c) gv).toArray t (0,0))){o:Nat}{v:Value}{s2 c2:Int}(ho:o=35∧v=.int .i64 s2∧c2=c∨o=36∧v=.int .i64 c2∧s2=s):(w.setCells wb o [v]).heap[wb]?=some (.cells (wkC V (sV p s2 c2) gv).toArray t (0,0)):=by
 have hol:o+1≤38:=by rcases ho with ⟨e,_⟩ | ⟨e,_⟩ <;> omega
 obtain⟨cur,h1,h2,h3⟩:=blk_setCells [v] o w _ h (by rw[List.size_toArray,wkC_len]; exact hol)
 rw[h1]
 have e:cur=(wkC V (sV p s2 c2) gv).toArray:=by
  refine Array.ext_getElem? fun j=>?_
  rw[h3 j,List.getElem?_toArray,List.getElem?_toArray,wkC_at2,wkC_at2 V p s2 c2]
  show(if o≤j∧j < o+1 then [v][j - o]? else _)=_
  by_cases h0:j=o
  ·rw[if_pos (by omega),h0,Nat.sub_self]
   rcases ho with ⟨rfl,rfl,rfl⟩ | ⟨rfl,rfl,rfl⟩ <;> rfl
  ·rw[if_neg (by omega)]
   rcases ho with ⟨rfl,rfl,rfl⟩ | ⟨rfl,rfl,rfl⟩
   ·rw[if_neg h0,if_neg h0]
   ·by_cases h5:j=35
    ·rw[if_pos h5,if_pos h5]
    ·rw[if_neg h5,if_neg h5,if_neg h0,if_neg h0]
 rw[e]
theorem Wt.size(h:Wt w V wb gv0 q X f (sV p s c) gv G w')(n:Int):Wt w V wb gv0 q X f (sV p n c) gv G (w'.setCell ⟨wb,35,none⟩ (.int .i64 n))∧∀k,Lk V wb gv w' k→(w'.setCell ⟨wb,35,none⟩ (.int .i64 n)).heap[k]?=w'.heap[k]?∧Lk V wb gv (w'.setCell ⟨wb,35,none⟩ (.int .i64 n)) k:=
 h.stem (grown_setCells w' wb 35 [.int .i64 n]) (wk_set h.b (.inl ⟨rfl,rfl,rfl⟩))
theorem Wt.c35(h:Wt w V wb gv0 q X f (sV p s c) gv G w'):w'.cell? ⟨wb,35,none⟩=some (.int .i64 s):=h.at (sV_34 p s c)
theorem Wt.fz(h:Wt w V wb gv0 q X f (sV p s c) gv G w')(o:Nat):w'.frozen? ⟨wb,o,none⟩=false:=frozen_of_row _ _ _ _ _ h.b
end
def RhInv(x2 x3 x6 x7 x8 x17 x18 x19 x20 x21 x22 x23 x24 x25 x26 x27 x28 x29 x30 x31 x32 x33 x34 x35 x36 x37 x38 x39 x40 x41 x42 x43 x44 x45 x46 x47 x48 x49 x50 x51 x52 x53 x54 x55 x56 x57 x58 x59 x60:Value)(w W:World)(V:Pl)(wb:Nat)(gv:Value)(q:Qt)(X:Dst)(f:Nat→Int)(G:List Pt.Pn)(bi:Nat)(p:Pt.Pn)(s0 c0 li:Int)(L:Nat→Bool)(a':Act)(w':World):Prop:=
 ∃u0 u1 u2 u3 u4 u5 u6 u7 u8 u9,a'={ tmps:=#[.pointer (some ⟨wb,0,none⟩),.pointer (some ⟨bi,0,none⟩),x2,x3,u8,u9,x6,x7,x8,u0,u1,u2,u3,u4,u5,u6,u7,x17,x18,x19,x20,x21,x22,x23,x24,x25,x26,x27,x28,x29,x30,x31,x32,x33,x34,x35,x36,x37,x38,x39,x40,x41,x42,x43,x44,x45,x46,x47,x48,x49,x50,x51,x52,x53,x54,x55,x56,x57,x58,x59,x60],defers:=[] }∧Fa L [(0,u0,.pointer (some ⟨wb,0,none⟩)),(1,u1,.pointer (some ⟨wb,0,none⟩)),(2,u2,.pointer (some ⟨wb,1,none⟩)),(3,u3,.pointer (some ⟨wb,35,none⟩)),(4,u4,.int .i64 s0),(5,u5,.int .i64 (lvI s0)),(6,u6,.int .i64 li),(7,u7,.int .i64 (lvI li)),(8,u8,.int .i64 (lvI s0)),(9,u9,.int .i64 (lvI li))]∧Od L []∧Ps w W V wb gv q X f (sV p s0 c0) G w'
def RdInv(x2 x6 x7 x8 x9 x10 x11 x12 x13 x14 x15 x16 x17 x18 x19 x20 x21 x22 x23 x24 x25 x26 x27 x28 x29 x30 x31 x32 x33 x34 x35 x36 x55 x56 x57 x58 x59 x60:Value)(w W:World)(V:Pl)(wb:Nat)(gv:Value)(q:Qt)(X:Dst)(f:Nat→Int)(X':Dst)(f':Nat→Int)(G G':List Pt.Pn)(bi:Nat)(p p2:Pt.Pn)(s0 c0 h0 n0 d d2:Int)(E1:Int)(L:Nat→Bool)(a':Act)(w':World):Prop:=
 ∃u0 u1 u2 u3 u4 u5 u6 u7 u8 u9 u10 u11 u12 u13 u14 u15 u16 u17 u19,a'={ tmps:=#[.pointer (some ⟨wb,0,none⟩),.pointer (some ⟨bi,0,none⟩),x2,u19,.int .i64 h0,.int .i64 n0,x6,x7,x8,x9,x10,x11,x12,x13,x14,x15,x16,x17,x18,x19,x20,x21,x22,x23,x24,x25,x26,x27,x28,x29,x30,x31,x32,x33,x34,x35,x36,u12,u0,u1,u2,u3,u4,u5,u6,u7,u8,u9,u10,u11,u13,u14,u15,u16,u17,x55,x56,x57,x58,x59,x60],defers:=[] }∧Fa L [(0,u0,.pointer (some ⟨wb,0,none⟩)),(1,u1,.pointer (some ⟨wb,0,none⟩)),(2,u2,.pointer (some ⟨wb,0,none⟩)),(3,u3,.pointer (some ⟨wb,0,none⟩)),(4,u4,.pointer (some ⟨wb,1,none⟩)),(5,u5,.pointer (some ⟨wb,1,none⟩)),(6,u6,.agg (Pt.pV p).toArray),(7,u7,.int .i64 h0),(8,u8,.int .i64 d),(9,u9,.int .i64 n0),(10,u10,.int .i64 d2),(11,u11,.tuple #[.agg (Pt.pV p2).toArray,.int .i64 E1]),(12,u12,.tuple #[.agg (Pt.pV p2).toArray,.int .i64 E1]),(13,u13,.agg (Pt.pV p2).toArray),(14,u14,.int .i64 E1),(15,u15,.pointer (some ⟨wb,0,none⟩)),(16,u16,.pointer (some ⟨wb,1,none⟩)),(17,u17,.pointer (some ⟨wb,1,none⟩)),(19,u19,.int .i64 E1)]∧Od L [(11,6),(11,8),(11,10),(11,1)]∧Pd w W V wb gv q X f X' f' G G' p p2 s0 c0 (L 11) (L 18) w'
theorem resz_de{w:World}{V:Pl}{wb:Nat}{gv:Value}{p:Pt.Pn}{s0 c0:Int}{G:List Pt.Pn}(hw:Wt w V wb gv q X f (sV p s0 c0) gv G w){bi:Nat}{li:Int}(ki:Lk V wb gv w bi)(ri:w.heap[bi]?=some (.cells #[.int .i64 li] 3 (0,0)))(hn:szB li=true)(hs:szB s0=true)(hlt:¬ lvI li < lvI s0){p2:Pt.Pn}{E1:Int}{G':List Pt.Pn}(HLAY:∀w',Wt w V wb gv q X f (sV p s0 c0) gv G w'→Calls Tryz.prog 50 #[.pointer (some ⟨wb,0,none⟩),.agg (Pt.pV p).toArray,.int .i64 (dpN (lvI s0).toNat:Int),.int .i64 (dpN (lvI li).toNat:Int)] w' fun e w''=>∃gv2,e=.returned (.tuple #[.agg (Pt.pV p2).toArray,.int .i64 E1])∧Wt w' V wb gv q X' f' (sV p s0 c0) gv2 G' w'') :
  Calls Tryz.prog 48 #[.pointer (some ⟨wb,0,none⟩),.pointer (some ⟨bi,0,none⟩)] w fun e w'=>∃gv2,e=.returned (.int .i64 E1)∧Wt w V wb gv q X' f' (sV p2 li c0) gv2 G' w':=by
 have HWT:=Lib.hid hw
 have HN:=Lib.hid hn
 have HSZ:=Lib.hid (fun w'=>sized_any li w')
 have Ki:=Lib.hid ki
 have Ri:=Lib.hid ri
 have hci:=cO ri
 obtain⟨a1,a2,a3,a4⟩:=lvI_szB hs
 obtain⟨b1,b2,b3,b4⟩:=lvI_szB hn
 have HL0:=Lib.hid (fun w'=>leaves_any s0 (by omega) w')
 have HL1:=Lib.hid (fun w'=>leaves_any li (by omega) w')
 have HD0:=Lib.hid (fun w'=>depth_any (lvI s0) (by omega) w')
 have HD1:=Lib.hid (fun w'=>depth_any (lvI li) (by omega) w')
 have HL:=Lib.hid HLAY
 clear hn hs ki ri hw HLAY a1 a2 a3 a4 b1 b2 b3 b4
 go_enter Tryz.func48,Tryz.ntmps48
 go_wp2_with fail
 refine(HSZ.out _).mono ?_
 rintro _ w1 ⟨rfl,rfl⟩
 rw[HN.out]
 dsimp only
 clear hci
 go_wp2_with fail
 refine QuietTail2.regionInv (n:=10) (Inv:=RhInv _ _ _ _ _ _ _ _ _ _ _ _ _ _ _ _ _ _ _ _ _ _ _ _ _ _ _ _ _ _ _ _ _ _ _ _ _ _ _ _ _ _ _ _ _ _ _ _ _ w w V wb gv q X f G bi p s0 c0 li) (by kernel_rfl) (by decide) (by kernel_rfl) ⟨_,_,_,_,_,_,_,_,_,_,rfl,Fa.none _,Od.none _,?_⟩ ?step ?fin
 exact Ps.start HWT.out
 case step=>
  rintro i o hi ho L a' w' ⟨u0,u1,u2,u3,u4,u5,u6,u7,u8,u9,rfl,TF,TO,TW⟩ hL hpre
  match i,hi with
  | 0,_=>
   simp at ho
   subst ho
   go_simp
   exact⟨_,u1,u2,u3,u4,u5,u6,u7,u8,u9,rfl,TF.set 0,TO.set 0 trivial,TW⟩
  | 1,_=>
   simp at ho
   subst ho
   obtain rfl:=TF.1 (hpre 0 (by kernel_rfl))
   go_simp
   exact⟨_,_,u2,u3,u4,u5,u6,u7,u8,u9,rfl,TF.set 1,TO.set 1 trivial,TW⟩
  | 2,_=>
   simp at ho
   subst ho
   obtain rfl:=TF.2.1 (hpre 1 (by kernel_rfl))
   go_simp
   exact⟨u0,_,_,u3,u4,u5,u6,u7,u8,u9,rfl,TF.set 2,TO.set 2 trivial,TW⟩
  | 3,_=>
   simp at ho
   subst ho
   obtain rfl:=TF.2.2.1 (hpre 2 (by kernel_rfl))
   go_simp
   exact⟨u0,u1,_,_,u4,u5,u6,u7,u8,u9,rfl,TF.set 3,TO.set 3 trivial,TW⟩
  | 4,_=>
   simp at ho
   subst ho
   obtain rfl:=TF.2.2.2.1 (hpre 3 (by kernel_rfl))
   have hci:=TW.t.c35
   go_simp
   exact⟨u0,u1,u2,_,_,u5,u6,u7,u8,u9,rfl,TF.set 4,TO.set 4 trivial,TW⟩
  | 5,_=>
   simp at ho
   subst ho
   obtain rfl:=TF.2.2.2.2.1 (hpre 4 (by kernel_rfl))
   go_simp
   refine(HL0.out w').mono ?_
   rintro _ w'' ⟨rfl,rfl⟩
   exact⟨u0,u1,u2,u3,_,_,u6,u7,u8,u9,rfl,TF.set 5,TO.set 5 trivial,TW⟩
  | 6,_=>
   simp at ho
   subst ho
   have hci:=cO ((TW.k _ Ki.out).1.trans Ri.out)
   go_simp
   exact⟨u0,u1,u2,u3,u4,u5,_,u7,u8,u9,rfl,TF.set 6,TO.set 6 trivial,TW⟩
  | 7,_=>
   simp at ho
   subst ho
   obtain rfl:=TF.2.2.2.2.2.2.1 (hpre 6 (by kernel_rfl))
   go_simp
   refine(HL1.out w').mono ?_
   rintro _ w'' ⟨rfl,rfl⟩
   exact⟨u0,u1,u2,u3,u4,u5,_,_,u8,u9,rfl,TF.set 7,TO.set 7 trivial,TW⟩
  | 8,_=>
   simp at ho
   subst ho
   obtain rfl:=TF.2.2.2.2.2.1 (hpre 5 (by kernel_rfl))
   go_simp
   exact⟨u0,u1,u2,u3,u4,_,u6,u7,_,u9,rfl,TF.set 8,TO.set 8 trivial,TW⟩
  | 9,_=>
   simp at ho
   subst ho
   obtain rfl:=TF.2.2.2.2.2.2.2.1 (hpre 7 (by kernel_rfl))
   go_simp
   exact⟨u0,u1,u2,u3,u4,u5,u6,_,u8,_,rfl,TF.set 9,TO.set 9 trivial,TW⟩
  | i+10,h=>omega
 case fin=>
  rintro L a' w' hall ⟨u0,u1,u2,u3,u4,u5,u6,u7,u8,u9,rfl,TF,TO,hWD⟩
  obtain rfl:=TF.2.2.2.2.2.2.2.2.1 (hall 8 (by omega))
  obtain rfl:=TF.2.2.2.2.2.2.2.2.2.1 (hall 9 (by omega))
  clear TF TO
  refine wpList_nil ?_
  have HW2:=Lib.hid hWD.t
  have HK2:=Lib.hid hWD.k
  clear hWD HWT hall
  have Ki2:=Lib.hid (HK2.out _ Ki.out).2
  have Ri2:=Lib.hid ((HK2.out _ Ki.out).1.trans Ri.out)
  have KI0:=Lib.hid (And.intro Ki.out Ri.out)
  clear HK2 Ki Ri HSZ HL0 HL1
  have Ki:=Ki2
  have Ri:=Ri2
  clear Ki2 Ri2
  go_wp2_with fail
  refine QuietTail2.regionInv (n:=20) (Inv:=RdInv _ _ _ _ _ _ _ _ _ _ _ _ _ _ _ _ _ _ _ _ _ _ _ _ _ _ _ _ _ _ _ _ _ _ _ _ _ _ w w' V wb gv q X f X' f' G G' bi p p2 s0 c0 (lvI s0) (lvI li) (dpN (lvI s0).toNat:Int) (dpN (lvI li).toNat:Int) E1) (by kernel_rfl) (by decide) (by kernel_rfl) ⟨_,_,_,_,_,_,_,_,_,_,_,_,_,_,_,_,_,_,_,rfl,Fa.none _,Od.none _,?_⟩ ?step ?fin
  exact Pd.start HW2.out
  case step=>
   rintro i o hi ho L a' w' ⟨u0,u1,u2,u3,u4,u5,u6,u7,u8,u9,u10,u11,u12,u13,u14,u15,u16,u17,u19,rfl,TF,TO,TW⟩ hL hpre
   match i,hi with
   | 0,_=>
    simp at ho
    subst ho
    go_simp
    exact⟨_,u1,u2,u3,u4,u5,u6,u7,u8,u9,u10,u11,u12,u13,u14,u15,u16,u17,u19,rfl,TF.set 0,TO.set 0 trivial,TW⟩
   | 1,_=>
    simp at ho
    subst ho
    have hn11:L 11=false:=by cases e:L 11 with | false=>rfl | true=>exact absurd (TO.2.2.2.1 e) (by rw[hL]; decide)
    go_simp
    exact⟨u0,_,u2,u3,u4,u5,u6,u7,u8,u9,u10,u11,u12,u13,u14,u15,u16,u17,u19,rfl,TF.set 1,TO.set 1 trivial,TW⟩
   | 2,_=>
    simp at ho
    subst ho
    go_simp
    exact⟨u0,u1,_,u3,u4,u5,u6,u7,u8,u9,u10,u11,u12,u13,u14,u15,u16,u17,u19,rfl,TF.set 2,TO.set 2 trivial,TW⟩
   | 3,_=>
    simp at ho
    subst ho
    obtain rfl:=TF.2.2.1 (hpre 2 (by kernel_rfl))
    go_simp
    exact⟨u0,u1,_,_,u4,u5,u6,u7,u8,u9,u10,u11,u12,u13,u14,u15,u16,u17,u19,rfl,TF.set 3,TO.set 3 trivial,TW⟩
   | 4,_=>
    simp at ho
    subst ho
    obtain rfl:=TF.2.2.2.1 (hpre 3 (by kernel_rfl))
    go_simp
    exact⟨u0,u1,u2,_,_,u5,u6,u7,u8,u9,u10,u11,u12,u13,u14,u15,u16,u17,u19,rfl,TF.set 4,TO.set 4 trivial,TW⟩
   | 5,_=>
    simp at ho
    subst ho
    obtain rfl:=TF.2.2.2.2.1 (hpre 4 (by kernel_rfl))
    go_simp
    exact⟨u0,u1,u2,u3,_,_,u6,u7,u8,u9,u10,u11,u12,u13,u14,u15,u16,u17,u19,rfl,TF.set 5,TO.set 5 trivial,TW⟩
   | 6,_=>
    simp at ho
    subst ho
    obtain rfl:=TF.2.2.2.2.2.1 (hpre 5 (by kernel_rfl))
    have hn11:L 11=false:=by cases e:L 11 with | false=>rfl | true=>exact absurd (TO.1 e) (by rw[hL]; decide)
    refine wp_load_mid 24 (.tmp 43) rfl wb 1 rfl (Pt.pV p) _ (TW.t0 hn11).t.rngP Pt.undP rfl (Pt.sizeP p) ?_
    simp only[Act.put,aA]
    exact⟨u0,u1,u2,u3,u4,_,_,u7,u8,u9,u10,u11,u12,u13,u14,u15,u16,u17,u19,rfl,TF.set 6,TO.set 6 trivial,TW⟩
   | 7,_=>
    simp at ho
    subst ho
    go_simp
    exact⟨u0,u1,u2,u3,u4,u5,u6,_,u8,u9,u10,u11,u12,u13,u14,u15,u16,u17,u19,rfl,TF.set 7,TO.set 7 trivial,TW⟩
   | 8,_=>
    simp at ho
    subst ho
    obtain rfl:=TF.2.2.2.2.2.2.2.1 (hpre 7 (by kernel_rfl))
    have hn11:L 11=false:=by cases e:L 11 with | false=>rfl | true=>exact absurd (TO.2.1 e) (by rw[hL]; decide)
    go_simp
    refine(HD0.out w').mono ?_
    rintro _ w'' ⟨rfl,rfl⟩
    exact⟨u0,u1,u2,u3,u4,u5,u6,_,_,u9,u10,u11,u12,u13,u14,u15,u16,u17,u19,rfl,TF.set 8,TO.set 8 trivial,TW⟩
   | 9,_=>
    simp at ho
    subst ho
    go_simp
    exact⟨u0,u1,u2,u3,u4,u5,u6,u7,u8,_,u10,u11,u12,u13,u14,u15,u16,u17,u19,rfl,TF.set 9,TO.set 9 trivial,TW⟩
   | 10,_=>
    simp at ho
    subst ho
    obtain rfl:=TF.2.2.2.2.2.2.2.2.2.1 (hpre 9 (by kernel_rfl))
    have hn11:L 11=false:=by cases e:L 11 with | false=>rfl | true=>exact absurd (TO.2.2.1 e) (by rw[hL]; decide)
    go_simp
    refine(HD1.out w').mono ?_
    rintro _ w'' ⟨rfl,rfl⟩
    exact⟨u0,u1,u2,u3,u4,u5,u6,u7,u8,_,_,u11,u12,u13,u14,u15,u16,u17,u19,rfl,TF.set 10,TO.set 10 trivial,TW⟩
   | 11,_=>
    simp at ho
    subst ho
    obtain rfl:=TF.2.1 (hpre 1 (by kernel_rfl))
    obtain rfl:=TF.2.2.2.2.2.2.1 (hpre 6 (by kernel_rfl))
    obtain rfl:=TF.2.2.2.2.2.2.2.2.1 (hpre 8 (by kernel_rfl))
    obtain rfl:=TF.2.2.2.2.2.2.2.2.2.2.1 (hpre 10 (by kernel_rfl))
    go_simp
    refine(HL.out w' (TW.t0 hL).t).mono ?_
    rintro _ w'' ⟨gv2,rfl,hT⟩
    exact⟨u0,_,u2,u3,u4,u5,_,u7,_,u9,_,_,u12,u13,u14,u15,u16,u17,u19,rfl,TF.set 11,TO.set 11 ⟨hpre 6 (by kernel_rfl),hpre 8 (by kernel_rfl),hpre 10 (by kernel_rfl),hpre 1 (by kernel_rfl),trivial⟩,(TW.call hL hT)⟩
   | 12,_=>
    simp at ho
    subst ho
    obtain rfl:=TF.2.2.2.2.2.2.2.2.2.2.2.1 (hpre 11 (by kernel_rfl))
    go_simp
    exact⟨u0,u1,u2,u3,u4,u5,u6,u7,u8,u9,u10,_,_,u13,u14,u15,u16,u17,u19,rfl,TF.set 12,TO.set 12 trivial,TW⟩
   | 13,_=>
    simp at ho
    subst ho
    obtain rfl:=TF.2.2.2.2.2.2.2.2.2.2.2.2.1 (hpre 12 (by kernel_rfl))
    go_simp
    exact⟨u0,u1,u2,u3,u4,u5,u6,u7,u8,u9,u10,u11,_,_,u14,u15,u16,u17,u19,rfl,TF.set 13,TO.set 13 trivial,TW⟩
   | 14,_=>
    simp at ho
    subst ho
    obtain rfl:=TF.2.2.2.2.2.2.2.2.2.2.2.2.1 (hpre 12 (by kernel_rfl))
    go_simp
    exact⟨u0,u1,u2,u3,u4,u5,u6,u7,u8,u9,u10,u11,_,u13,_,u15,u16,u17,u19,rfl,TF.set 14,TO.set 14 trivial,TW⟩
   | 15,_=>
    simp at ho
    subst ho
    obtain rfl:=TF.1 (hpre 0 (by kernel_rfl))
    go_simp
    exact⟨_,u1,u2,u3,u4,u5,u6,u7,u8,u9,u10,u11,u12,u13,u14,_,u16,u17,u19,rfl,TF.set 15,TO.set 15 trivial,TW⟩
   | 16,_=>
    simp at ho
    subst ho
    obtain rfl:=TF.2.2.2.2.2.2.2.2.2.2.2.2.2.2.2.1 (hpre 15 (by kernel_rfl))
    go_simp
    exact⟨u0,u1,u2,u3,u4,u5,u6,u7,u8,u9,u10,u11,u12,u13,u14,_,_,u17,u19,rfl,TF.set 16,TO.set 16 trivial,TW⟩
   | 17,_=>
    simp at ho
    subst ho
    obtain rfl:=TF.2.2.2.2.2.2.2.2.2.2.2.2.2.2.2.2.1 (hpre 16 (by kernel_rfl))
    go_simp
    exact⟨u0,u1,u2,u3,u4,u5,u6,u7,u8,u9,u10,u11,u12,u13,u14,u15,_,_,u19,rfl,TF.set 17,TO.set 17 trivial,TW⟩
   | 18,_=>
    simp at ho
    subst ho
    obtain rfl:=TF.2.2.2.2.2.2.2.2.2.2.2.2.2.1 (hpre 13 (by kernel_rfl))
    obtain rfl:=TF.2.2.2.2.2.2.2.2.2.2.2.2.2.2.2.2.2.1 (hpre 17 (by kernel_rfl))
    refine wp_store_mid 24 (.tmp 54) (.tmp 50) rfl wb 1 (Pt.pV p2).toArray rfl rfl (TW.thereP (hpre 11 (by kernel_rfl)) hL) (Pt.sizeP' _) (Pt.pV_all _) ?_
    simp only[Act.put]
    exact⟨u0,u1,u2,u3,u4,u5,u6,u7,u8,u9,u10,u11,u12,_,u14,u15,u16,_,u19,rfl,TF.set 18,TO.set 18 trivial,(TW.store (hpre 11 (by kernel_rfl)) hL)⟩
   | 19,_=>
    simp at ho
    subst ho
    obtain rfl:=TF.2.2.2.2.2.2.2.2.2.2.2.2.2.2.1 (hpre 14 (by kernel_rfl))
    go_simp
    exact⟨u0,u1,u2,u3,u4,u5,u6,u7,u8,u9,u10,u11,u12,u13,_,u15,u16,u17,_,rfl,TF.set 19,TO.set 19 trivial,TW⟩
   | i+20,h=>omega
  case fin=>
   rintro L a' w' hall ⟨u0,u1,u2,u3,u4,u5,u6,u7,u8,u9,u10,u11,u12,u13,u14,u15,u16,u17,u19,rfl,TF,TO,hWD⟩
   rw[hall 11 (by omega),hall 18 (by omega)] at hWD
   obtain rfl:=TF.2.2.2.2.2.2.2.2.2.2.2.2.2.2.2.2.2.2.1 (hall 19 (by omega))
   clear TF TO
   refine wpList_nil ?_
   obtain⟨gv2,k1⟩:=hWD.t1 rfl
   have hci:=cO ((k1.keep KI0.out.1).1.trans KI0.out.2)
   have hc35:=k1.c35
   have hfz:=k1.fz 35
   have HKF:=Lib.hid (k1.size li).1
   clear hWD k1 HW2 HL hall
   go_wp2_with fail
   go_ret
   exact⟨rfl,gv2,HKF.out⟩
end St
end Go.Proofs.YteaocagepfgfnaaGreatDoor
