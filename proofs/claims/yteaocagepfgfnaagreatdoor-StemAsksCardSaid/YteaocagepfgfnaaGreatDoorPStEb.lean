import Derived.Test.YteaocagepfgfnaaGreatDoorPStX
import Derived.Test.YteaocagepfgfnaaGreatDoorPStV
import Derived.Test.YteaocagepfgfnaaGreatDoorPStU
import Derived.Test.YteaocagepfgfnaaGreatDoorPAl
set_option maxRecDepth 100000
set_option maxHeartbeats 8000000
namespace Go.Proofs.YteaocagepfgfnaaGreatDoor
namespace St
open Go.RowKit Go.Shelf Dk Gm Eqb Rm Di Vl Qv Sp
open Vm (HasVol vM)
attribute [local go_sem] Pt.zvP Pt.zv3 zv29
attribute [local go_sem] Pt.zc3 zc29
attribute [local irreducible] wpQuiet
theorem afterRd.n{W W':World}{I Ix:World→Prop}{a:Act}(h1:KeepsOthers W W')(h2:I W'):afterRd W I Ix .normal a W':=⟨h1,h2⟩
theorem afterRd.r{W W':World}{I Ix:World→Prop}{a:Act}(h1:KeepsOthers W W')(h2:Ix W'):afterRd W I Ix .ret a W':=⟨h1,h2⟩
attribute [local irreducible] afterRd
attribute [local go_sem] Oper.semAt_some
theorem cell_one{w:World}{b:Nat}{v:Value}{t:TypeId}(h:w.heap[b]?=some (.cells [v].toArray t (0,0))):w.cell? ⟨b,0,none⟩=some v:=by
 rw[cell_of_row _ _ _ _ _ _ h]
 rfl
theorem Bx.drop{V:Pl}{wb n0:Nat}{gv:Value}{L M:List (Nat × Array Value × TypeId)}{W:World}(h:Bx V wb gv n0 (L ++ M) W):Bx V wb gv n0 L W:=
 ⟨fun i x hx=>h.i i x (by rw[List.getElem?_append_left (List.getElem?_eq_some_iff.1 hx).1]; exact hx),fun i j x y hx hy e=>h.ne i j x y (by rw[List.getElem?_append_left (List.getElem?_eq_some_iff.1 hx).1]; exact hx) (by rw[List.getElem?_append_left (List.getElem?_eq_some_iff.1 hy).1]; exact hy) e⟩
theorem Bx.add{V:Pl}{wb n0 b:Nat}{gv:Value}{L:List (Nat × Array Value × TypeId)}{W:World}{c:Array Value}{t:TypeId}(h:Bx V wb gv n0 L W)(hn:n0≤b)(hl:Lk V wb gv W b)(hr:W.heap[b]?=some (.cells c t (0,0)))(hne:∀(i:Nat) (x:Nat × Array Value × TypeId),L[i]?=some x→x.1≠b):Bx V wb gv n0 (L ++ [(b,c,t)]) W:=by
 have get:∀(j:Nat) (x:Nat × Array Value × TypeId),(L ++ [(b,c,t)])[j]?=some x→(j=L.length∧x=(b,c,t))∨L[j]?=some x:=fun j x hx=>by
  by_cases hj:j < L.length
  ·rw[List.getElem?_append_left hj] at hx
   exact .inr hx
  ·rw[List.getElem?_append_right (by omega)] at hx
   obtain⟨hlt,e⟩:=List.getElem?_eq_some_iff.1 hx
   simp only[List.length_singleton] at hlt
   have:j=L.length:=by omega
   subst this
   simp at hx
   exact .inl ⟨rfl,hx.symm⟩
 refine⟨fun j x hx=>?_,fun j k x y hx hy e=>?_⟩
 ·rcases get j x hx with ⟨_,rfl⟩ | hx
  ·exact⟨hn,hl,hr⟩
  ·exact h.i j x hx
 ·rcases get j x hx with ⟨e1,e2⟩ | hx' <;> rcases get k y hy with ⟨e3,e4⟩ | hy'
  ·rw[e1,e3]
  ·exact absurd (by rw[←e,e2]) (hne k y hy')
  ·exact absurd (by rw[e,e4]) (hne j x hx')
  ·exact h.ne _ _ _ _ hx' hy' e
theorem Bx.add2{V:Pl}{wb n0 b b':Nat}{gv:Value}{L:List (Nat × Array Value × TypeId)}{W W':World}{c c':Array Value}{t t':TypeId}(h:Bx V wb gv n0 L W)(hk:∀b,Lk V wb gv W b→W'.heap[b]?=W.heap[b]?∧Lk V wb gv W' b)(hb:W.heap.size≤b)(hb':W.heap.size≤b')(hbb:b≠b')(hl:Lk V wb gv W' b)(hl':Lk V wb gv W' b')(hr:W'.heap[b]?=some (.cells c t (0,0)))(hr':W'.heap[b']?=some (.cells c' t' (0,0)))(hn:n0≤W.heap.size) :
  Bx V wb gv n0 (L ++ [(b,c,t)] ++ [(b',c',t')]) W':=by
 refine((h.keep hk).add (by omega) hl hr fun i x hx e=>?_).add (by omega) hl' hr' fun i x hx e=>?_
 ·have:=(h.i i x hx).2.1.lt
  omega
 ·by_cases hj:i < L.length
  ·rw[List.getElem?_append_left hj] at hx
   have:=(h.i i x hx).2.1.lt
   omega
  ·rw[List.getElem?_append_right (by omega)] at hx
   obtain⟨hlt,e2⟩:=List.getElem?_eq_some_iff.1 hx
   simp only[List.length_singleton] at hlt
   have h0:i - L.length=0:=by omega
   rw[h0] at hx
   simp at hx
   subst hx
   exact hbb e
theorem set_one{w:World}{b:Nat}{v:Value}{t:TypeId}(h:w.heap[b]?=some (.cells [v].toArray t (0,0)))(u:Value):(w.setCell ⟨b,0,none⟩ u).heap[b]?=some (.cells [u].toArray t (0,0)):=by
 rw[heap_setCell_same w b 0 _ _ u h]
 rfl
def EaInv(x1 x2 x3 x5 x6 x7 x10 x11 x12 x13 x23 x24 x25 x26 x27 x28 x29 x30 x31 x32 x33 x34 x35 x36 x37 x38 x39 x40 x41 x42 x43 x44 x45 x46 x47 x48 x49 x50 x51 x52 x53 x54 x55 x56 x57 x58 x59 x60 x61 x62 x63 x64 x65 x66 x67 x68 x69 x70 x71 x72 x73 x74 x75 x76 x77:Value)(w W:World)(V:Pl)(wb:Nat)(gv:Value)(q:Qt)(X:Dst)(f:Nat→Int)(st:List Value)(G:List Pt.Pn)(b4:Nat)(p:Pt.Pn)(Q:Nat→Pt.Pn)(L:Nat→Bool)(a':Act)(w':World):Prop:=
 ∃u0 u1 u2 u3 u4 u5 u6 u7 u8 u9 u10,a'={ tmps:=#[.pointer (some ⟨wb,0,none⟩),x1,x2,x3,.pointer (some ⟨b4,0,none⟩),x5,x6,x7,u9,u10,x10,x11,x12,x13,u6,u0,u1,u2,u3,u4,u5,u7,u8,x23,x24,x25,x26,x27,x28,x29,x30,x31,x32,x33,x34,x35,x36,x37,x38,x39,x40,x41,x42,x43,x44,x45,x46,x47,x48,x49,x50,x51,x52,x53,x54,x55,x56,x57,x58,x59,x60,x61,x62,x63,x64,x65,x66,x67,x68,x69,x70,x71,x72,x73,x74,x75,x76,x77],defers:=[] }∧Fa L [(0,u0,.pointer (some ⟨wb,0,none⟩)),(1,u1,.pointer (some ⟨wb,0,none⟩)),(2,u2,.pointer (some ⟨wb,0,none⟩)),(3,u3,.pointer (some ⟨V.b,V.o,none⟩)),(4,u4,.agg (Pt.pV p).toArray),(5,u5,.tuple #[.agg (Pt.f3 Q).toArray,.int .i64 0]),(6,u6,.tuple #[.agg (Pt.f3 Q).toArray,.int .i64 0]),(7,u7,.agg (Pt.f3 Q).toArray),(8,u8,.int .i64 0)]∧Od L []∧Pb w W V wb gv q X f X f st G 83 (Pt.f3 Pt.zP) (Pt.f3 Q) 48 [.int .i64 0] [.int .i64 0] (L 5) (L 9) (L 11) (L 10) (L 12) u9 u10 w'
def EgInv(x1 x2 x3 x5 x6 x7 x8 x9 x10 x11 x12 x13 x14 x15 x16 x17 x18 x19 x20 x21 x22 x23 x24 x25 x26 x27 x28 x29 x30 x31 x32 x33 x34 x35 x36 x37 x38 x39 x40 x41 x42 x43 x44 x45 x46 x47 x48 x49 x50 x51 x62 x63 x64 x65 x66 x67 x68 x69 x70 x71 x72 x73 x74 x75 x76 x77:Value)(w W:World)(V:Pl)(wb:Nat)(gv:Value)(q:Qt)(X:Dst)(f:Nat→Int)(st:List Value)(G:List Pt.Pn)(b5:Nat)(p:Pt.Pn)(dfl:List Deferred)(L:Nat→Bool)(a':Act)(w':World):Prop:=
 ∃u0 u1 u2 u3 u4 u5 u6 u7 u8 u9,a'={ tmps:=#[.pointer (some ⟨wb,0,none⟩),x1,x2,x3,.pointer (some ⟨b5,0,none⟩),x5,x6,x7,x8,x9,x10,x11,x12,x13,x14,x15,x16,x17,x18,x19,x20,x21,x22,x23,x24,x25,x26,x27,x28,x29,x30,x31,x32,x33,x34,x35,x36,x37,x38,x39,x40,x41,x42,x43,x44,x45,x46,x47,x48,x49,x50,x51,u0,u1,u2,u3,u4,u5,u6,u7,u8,u9,x62,x63,x64,x65,x66,x67,x68,x69,x70,x71,x72,x73,x74,x75,x76,x77],defers:=dfl }∧Fa L [(0,u0,.pointer (some ⟨wb,0,none⟩)),(1,u1,.pointer (some ⟨wb,0,none⟩)),(2,u2,.pointer (some ⟨wb,0,none⟩)),(3,u3,.pointer (some ⟨wb,37,none⟩)),(4,u4,gv),(5,u5,.agg (Pt.pV p).toArray),(8,u8,.pointer (some ⟨wb,0,none⟩)),(9,u9,.pointer (some ⟨wb,37,none⟩))]∧Od L [(7,4),(7,6),(6,5)]∧Ga w W V wb gv q X f st G [p] (L 6) (L 7) (L 10) u6 u7 w'
theorem each_any{w:World}{V:Pl}{wb:Nat}{gv:Value}{q:Qt}{X:Dst}{f:Nat→Int}{st:List Value}{G:List Pt.Pn}(hw:Wt w V wb gv q X f st gv G w)(hst:st.length=36)(p:Pt.Pn)(Q:Nat→Pt.Pn)(F:FuncId)(cap:Array Value)(hF:Enters Tryz.prog F)
  (HPARTS:∀w',Rm.Kp w'→HV w' V q X f→Calls Tryz.prog 41 #[.pointer (some ⟨V.b,V.o,none⟩),.agg (Pt.pV p).toArray] w' fun e w''=>e=.returned (.tuple #[.agg (Pt.f3 Q).toArray,.int .i64 0])∧TV w' V q X f w'')
  (Xs:Nat→Dst) (fs:Nat→Nat→Int) (Gs:Nat→List Pt.Pn) (R:Nat→Pt.Pn) (Er:Nat→Int) (h3:Xs 3=X∧fs 3=f∧Gs 3=G)
  (HD:∀k,k < 3→(∀j,k < j→j < 3→Er j=0)→∀w' gv',(∀b,Lk V wb gv w b→w'.heap[b]?=w.heap[b]?∧Lk V wb gv' w' b)→Wt w' V wb gv' q (Xs (k+1)) (fs (k+1)) st gv' (Gs (k+1)) w'→
   Calls Tryz.prog F (#[.int .i64 (k:Int),.agg (Pt.pV (Q k)).toArray] ++ cap) w' fun e w''=>∃gv'',e=.returned (.tuple #[.agg (Pt.pV (R k)).toArray,.int .i64 (Er k)])∧Wt w' V wb gv' q (Xs k) (fs k) st gv'' (Gs k) w'')
  (rp:Pt.Pn) (rE:Int) (rX:Dst) (rf:Nat→Int) (rG:List Pt.Pn)
  (HE:∀k,k < 3→(∀j,k < j→j < 3→Er j=0)→Er k≠0→rp=Pt.pz∧rE=Er k∧rX=Xs k∧rf=fs k∧rG=Gs k)
  (hGl:(Gs 0).length≤900000)
  (HR:(∀j,j < 3→Er j=0)→if Pt.eq3 R Q=true then rp=p∧rE=0∧rX=Xs 0∧rf=fs 0∧rG=Gs 0
   else if Pt.eq3 R (fun _=>Pt.hole)=true then rp=Pt.hole∧rE=0∧rX=Xs 0∧rf=fs 0∧rG=Gs 0 ++ [p]
   else Pt.ndE 3 R=0∧∃p1,rp=(if rE=0 then p1 else Pt.pz)∧rG=(if rE=0 then Gs 0 ++ [p] else Gs 0)∧∀w',Rm.Kp w'→HV w' V q (Xs 0) (fs 0)→Calls Tryz.prog 84 #[.pointer (some ⟨V.b,V.o,none⟩),.agg (bl (Pt.ndV 3 R)).toArray,.int .i64 2] w' fun e w''=>e=.returned (.tuple #[.agg (Pt.pV p1).toArray,.int .i64 rE])∧TV w' V q rX rf w'') :
  Calls Tryz.prog 80 #[.pointer (some ⟨wb,0,none⟩),.agg (Pt.pV p).toArray,.func (.func F) #[] cap] w fun e w'=>∃gv',e=.returned (.tuple #[.agg (Pt.pV rp).toArray,.int .i64 rE])∧Wt w V wb gv q rX rf st gv' rG w':=by
 obtain⟨W,hW,hwW,hBW,hsW,hblW⟩:=Bx.boxes [((Pt.pV p).toArray,24),(#[.func (.func F) #[] cap],124),((Pt.pV Pt.pz).toArray,24),(#[.int .i64 0],48)] (Bx.nil (n0:=w.heap.size)) hw (Nat.le_refl _)
 have hWw:=hwW.sz
 have r4:=(hBW.i 0 _ rfl).2.2
 have k4:=(hBW.i 0 _ rfl).2.1
 have HR4:=Lib.hid r4
 have HK4:=Lib.hid k4
 have HBW:=Lib.hid hBW
 have HWT:=Lib.hid hwW
 have HPA:=Lib.hid HPARTS
 have HDO:=Lib.hid HD
 have HEE:=Lib.hid HE
 have HRR:=Lib.hid HR
 have HFF:=Lib.hid hF
 simp only[List.foldl_cons,List.foldl_nil] at hW
 clear r4 k4 hw hBW hwW HPARTS HD HE HR hF hblW
 refine(callsIn_wide (n:=10)).1 ?_
 refine callsIn_of_wp_marks Tryz.func80 rfl trivial ?_
 refine wpIn_wide.2 ?_
 simp only[Tryz.ntmps80,List.size_toArray,List.length_cons,List.length_nil,Nat.reduceAdd,Nat.reduceSub,Array.replicate_succ,Array.replicate_zero,List.push_toArray,List.append_toArray,List.nil_append,List.cons_append]
 go_wp2_with fail
 rw[Pt.zrow,←hW]
 clear hW
 refine QuietTail2.regionInv (n:=13) (Inv:=EaInv _ _ _ _ _ _ _ _ _ _ _ _ _ _ _ _ _ _ _ _ _ _ _ _ _ _ _ _ _ _ _ _ _ _ _ _ _ _ _ _ _ _ _ _ _ _ _ _ _ _ _ _ _ _ _ _ _ _ _ _ _ _ _ _ _ w W V wb gv q X f st G w.heap.size p Q) (by kernel_rfl) (by decide) (by kernel_rfl) ⟨_,_,_,_,_,_,_,_,_,_,_,rfl,Fa.none _,Od.none _,?_⟩ ?step ?fin
 exact Pb.start HWT.out
 case step=>
  rintro i o hi ho L a' w' ⟨u0,u1,u2,u3,u4,u5,u6,u7,u8,u9,u10,rfl,TF,TO,TW⟩ hL hpre
  match i,hi with
  | 0,_=>
   simp at ho
   subst ho
   go_simp
   exact⟨_,u1,u2,u3,u4,u5,u6,u7,u8,u9,u10,rfl,TF.set 0,TO.set 0 trivial,TW⟩
  | 1,_=>
   simp at ho
   subst ho
   obtain rfl:=TF.1 (hpre 0 (by kernel_rfl))
   go_simp
   exact⟨_,_,u2,u3,u4,u5,u6,u7,u8,u9,u10,rfl,TF.set 1,TO.set 1 trivial,TW⟩
  | 2,_=>
   simp at ho
   subst ho
   obtain rfl:=TF.2.1 (hpre 1 (by kernel_rfl))
   go_simp
   exact⟨u0,_,_,u3,u4,u5,u6,u7,u8,u9,u10,rfl,TF.set 2,TO.set 2 trivial,TW⟩
  | 3,_=>
   simp at ho
   subst ho
   obtain rfl:=TF.2.2.1 (hpre 2 (by kernel_rfl))
   have hvp:=TW.vol
   go_simp
   exact⟨u0,u1,_,_,u4,u5,u6,u7,u8,u9,u10,rfl,TF.set 3,TO.set 3 trivial,TW⟩
  | 4,_=>
   simp at ho
   subst ho
   refine wp_load_mid 24 (.tmp 4) rfl w.heap.size 0 rfl (Pt.pV p) _ (Pt.rP ((TW.k _ HK4.out).1.trans HR4.out)) Pt.undP rfl (Pt.sizeP p) ?_
   simp only[Act.put,aA]
   exact⟨u0,u1,u2,u3,_,u5,u6,u7,u8,u9,u10,rfl,TF.set 4,TO.set 4 trivial,TW⟩
  | 5,_=>
   simp at ho
   subst ho
   obtain rfl:=TF.2.2.2.1 (hpre 3 (by kernel_rfl))
   obtain rfl:=TF.2.2.2.2.1 (hpre 4 (by kernel_rfl))
   go_simp
   refine(HPA.out w' (TW.t0 hL).kp (TW.t0 hL).v).mono ?_
   rintro _ w'' ⟨rfl,hT⟩
   exact⟨u0,u1,u2,_,_,_,u6,u7,u8,u9,u10,rfl,TF.set 5,TO.set 5 trivial,(TW.call hL hT)⟩
  | 6,_=>
   simp at ho
   subst ho
   obtain rfl:=TF.2.2.2.2.2.1 (hpre 5 (by kernel_rfl))
   go_simp
   exact⟨u0,u1,u2,u3,u4,_,_,u7,u8,u9,u10,rfl,TF.set 6,TO.set 6 trivial,TW⟩
  | 7,_=>
   simp at ho
   subst ho
   obtain rfl:=TF.2.2.2.2.2.2.1 (hpre 6 (by kernel_rfl))
   go_simp
   exact⟨u0,u1,u2,u3,u4,u5,_,_,u8,u9,u10,rfl,TF.set 7,TO.set 7 trivial,TW⟩
  | 8,_=>
   simp at ho
   subst ho
   obtain rfl:=TF.2.2.2.2.2.2.1 (hpre 6 (by kernel_rfl))
   go_simp
   exact⟨u0,u1,u2,u3,u4,u5,_,u7,_,u9,u10,rfl,TF.set 8,TO.set 8 trivial,TW⟩
  | 9,_=>
   simp at ho
   subst ho
   go_simp
   exact⟨u0,u1,u2,u3,u4,u5,u6,u7,u8,_,u10,rfl,TF.set 9,TO.set 9 trivial,(TW.alloc hL)⟩
  | 10,_=>
   simp at ho
   subst ho
   go_simp
   exact⟨u0,u1,u2,u3,u4,u5,u6,u7,u8,u9,_,rfl,TF.set 10,TO.set 10 trivial,(TW.alloc2 hL)⟩
  | 11,_=>
   simp at ho
   subst ho
   obtain rfl:=TF.2.2.2.2.2.2.2.1 (hpre 7 (by kernel_rfl))
   obtain⟨bk,rfl,_⟩:=TW.al (hpre 9 (by kernel_rfl))
   refine wp_store_row 83 (.tmp 8) (.tmp 21) rfl bk (Pt.f3 Q).toArray rfl rfl 83 _ (TW.row (hpre 9 (by kernel_rfl)) hL) (Pt.size3' _) (by rw[List.size_toArray,List.size_toArray,Pt.f3_length,Pt.f3_length]) (Pt.f3_all _) ?_
   simp only[Act.put]
   exact⟨u0,u1,u2,u3,u4,u5,u6,_,u8,_,u10,rfl,TF.set 11,TO.set 11 trivial,(TW.store (hpre 5 (by kernel_rfl)) (hpre 9 (by kernel_rfl)) hL hWw (by decide) (by decide))⟩
  | 12,_=>
   simp at ho
   subst ho
   obtain rfl:=TF.2.2.2.2.2.2.2.2.1 (hpre 8 (by kernel_rfl))
   obtain⟨bk,rfl,_⟩:=TW.al2 (hpre 10 (by kernel_rfl))
   have hrw:=TW.row2 (hpre 10 (by kernel_rfl)) hL
   have hcw:=cell_one hrw
   have hfw:=frozen_of_row _ _ 0 _ _ hrw
   go_simp
   exact⟨u0,u1,u2,u3,u4,u5,u6,u7,_,u9,_,rfl,TF.set 12,TO.set 12 trivial,(TW.store2 (hpre 5 (by kernel_rfl)) (hpre 10 (by kernel_rfl)) hL hWw (by decide) (by decide) (only_put _ _ _ _) (set_one hrw _))⟩
  | i+13,h=>omega
 case fin=>
  rintro L a' w' hall ⟨u0,u1,u2,u3,u4,u5,u6,u7,u8,u9,u10,rfl,TF,TO,hWD⟩
  rw[hall 5 (by omega),hall 9 (by omega),hall 10 (by omega),hall 11 (by omega),hall 12 (by omega)] at hWD
  clear TF TO
  refine wpList_nil ?_
  obtain⟨b8,rfl,k8,g8,r8⟩:=hWD.al rfl
  obtain⟨b9,rfl,k9,g9,r9⟩:=hWD.al2 rfl
  have h89:b8≠b9:=fun e=>hWD.ne rfl rfl (by rw[e])
  have HWT1:=Lib.hid (hWD.t1 rfl)
  rw[if_pos rfl] at r8 r9
  have HB1:=Lib.hid (Bx.add2 HBW.out (fun b hl=>hWD.k b hl) g8 g9 h89 k8 k9 r8 r9 (by omega))
  have hr8:=row_any r8
  have c9:=cell_one r9
  clear hWD HPA hall r8 k8 r9 k9 HWT HBW HK4 HR4
  obtain⟨w5,hW5,hwW5,hB5,hsW5,hbl5⟩:=Bx.boxes [((Pt.f3 Q).toArray,83)] HB1.out HWT1.out (by have:=HWT1.out.sz; omega)
  simp only[List.foldl_cons,List.foldl_nil] at hW5
  have HWT5:=Lib.hid hwW5
  have HB5:=Lib.hid hB5
  clear hwW5 hbl5 hB5
  go_upto_region 5 with (first | (refine wpList_load_mid rfl 83 (.tmp 8) rfl b8 0 rfl (Pt.f3 Q) _ (by exact hr8) Pt.und3 rfl (Pt.size3 Q) ?_; simp only[Act.put,aA]) | (refine @wpList_store_row _ _ _ _ _ _ _ rfl 83 (.tmp 10) (.tmp 27) rfl w'.heap.size (Pt.f3 Q).toArray rfl rfl 83 _ (heap_alloc_new w' _) (Pt.size3' _) rfl (Pt.f3_all _) ?_; simp only[Act.put]; rw[World.setRow_alloc_new,←hW5]))
  clear hr8 c9 hW5
  go_wp2_with fail
  refine(backwardp_any (some ⟨b8,0,none⟩) 3 3 w5).mono ?_
  rintro _ _ ⟨rfl,rfl⟩
  dsimp only
  obtain⟨w6,hW6,hwW6,hB6,hsW6,hbl6⟩:=Bx.boxes [(#[.slice (some ⟨b8,0,none⟩) 3 3],52)] HB5.out HWT5.out (by have:=HWT5.out.sz; omega)
  simp only[List.foldl_cons,List.foldl_nil] at hW6
  go_wp2_with fail
  rw[←hW6]
  generalize hb10:w'.heap.size=b10 at hB6 ⊢
  generalize hBs:w5.heap.size=Bs at hB6 ⊢
  have h0:eI w V wb gv q st Xs fs Gs b8 b9 b10 Bs F cap p Q R Er 3 w6:=by
   obtain⟨rfl,rfl,rfl⟩:=h3
   refine⟨fun j h1 h2=>by omega,gv,hwW6,?_⟩
   unfold eL
   rw[eR_3]
   exact hB6
  have HWW:=Lib.hid hwW6.sz
  clear hB6 hwW6 hW6 hb10 hBs HB5 HWT5 HB1 HWT1 hsW5 hsW6 hbl6
  refine(wpIn_wide (n:=10)).1 ?_
  refine range_back (n:=10) (by omega) (g:=.tmp 29) (m:=3) (cap:=3) (Q:=Q) rfl rfl (by omega) (by omega) (eI w V wb gv q st Xs fs Gs b8 b9 b10 Bs F cap p Q R Er) (eX w V wb gv q st Xs fs Gs b8 b9 b10 Bs F cap p Q R Er)
   (fun k W W' h=>eI_recd HWW.out W W' h) (fun W W' h=>eX_recd HWW.out W W' h) (fun k W h=>eI_bk h) h0 ?round ?done ?stop
  case round=>
   rintro l k W K hk ⟨hE,gv',hWt,hBx⟩ hK
   gi_wp2_with (refine wpListIn_store_row rfl 24 (.tmp 12) (.tmp 31) rfl W.heap.size (Pt.pV (Q k)).toArray rfl rfl 24 _ (heap_alloc_new _ _) (Pt.sizeP' _) rfl (Pt.pV_all _) ?_; rw[World.setRow_alloc_new]; simp only[Act.put])
   refine hK _ _ (KeepsOthers.alloc _ _) fun W2 hck hlow=>?_
   obtain⟨hWa,hBa⟩:=hBx.new hWt (by have:=hWt.sz; omega) (Pt.pV (Q k)).toArray 24
   obtain⟨hW2,hB2⟩:=hBa.recd hWa hck fun j hj=>hlow j (by have:=HWW.out; omega)
   generalize hb12:W.heap.size=b12 at hB2 ⊢
   clear hWa hBa hWt hBx hck hlow hK
   have hE1:∀j,k < j→j < 3→Er j=0:=fun j h1 h2=>hE j (by omega) h2
   have c5:=cell_one (hB2.i 1 _ rfl).2.2
   have r12:=Pt.rP (hB2.i 8 _ rfl).2.2
   have hEN:=HFF.out
   have hk0:(0:Int)≤(k:Int):=by omega
   have hk3:(k:Int) < 3:=by omega
   unfold Enters at hEN
   obtain⟨I0,hI0⟩:∃I0,I0=eI w V wb gv q st Xs fs Gs b8 b9 b10 Bs F cap p Q R Er k:=⟨_,rfl⟩
   obtain⟨X0,hX0⟩:∃X0,X0=eX w V wb gv q st Xs fs Gs b8 b9 b10 Bs F cap p Q R Er:=⟨_,rfl⟩
   rw[←hI0,←hX0]
   have HI0:=Lib.hid hI0
   have HX0:=Lib.hid hX0
   clear hI0 hX0
   gi_wp2_with (refine wpListIn_load_mid rfl 24 (.tmp 12) rfl b12 0 rfl (Pt.pV (Q k)) _ (by exact r12) Pt.undP rfl (Pt.sizeP _) ?_; simp only[Act.put,aA])
   refine⟨trivial,((callsIn_wide.2 (HDO.out k hk hE1 W2 gv' (fun b hl=>hW2.keep hl) hW2.self)).inRound l).mono ?_⟩
   rintro _ W3 ⟨gv3,rfl,hT⟩
   dsimp only
   have hKO:=Lib.hid (hT.others hW2)
   have hB3:=hB2.wt hT
   have hW3:=hW2.trans hT
   have r10:W3.heap[b10]?=some (.cells (Pt.f3 (eR Q R (k+1))).toArray 83 (0,0)):=(hB3.i 6 _ rfl).2.2
   have th10:W3.there b10 (k * 34) 34:=by rw[Nat.mul_comm]; exact(Pt.R3.new r10).at hk
   obtain⟨W4,hw4,hW4,hB4⟩:∃W4,W4=W3.setCells b10 (k * 34) (Pt.pV (R k))∧Wt w V wb gv q (Xs k) (fs k) st gv3 (Gs k) W4∧Bx V wb gv3 w.heap.size (eL w.heap.size b8 b9 b10 Bs F cap p Q Pt.pz 0 0 (eR Q R k) ++ [(b12,(Pt.pV (Q k)).toArray,24)]) W4:=by
    obtain⟨a1,a2⟩:=hB3.put hW3 (Nat.le_refl _) (i:=6) rfl (by decide) (by decide) (grown_cells (k * 34) (Pt.pV (R k))) (by rw[Nat.mul_comm]; exact set3 r10 hk (R k))
    rw[eR_s] at a2
    exact⟨_,rfl,a1,a2⟩
   have hKO4:KeepsOthers W3 W4:=by
    rw[hw4]
    exact KeepsOthers.of_grownBy (grown_cells (k * 34) (Pt.pV (R k))) fun j o ej hj=>by
     cases ej
     rw[r10] at hj
     cases hj
     rfl
   obtain⟨hW5,hB5⟩:=hB4.cell hW4 (Nat.le_refl _) 5 (.int .i64 (Er k)) rfl (by decide) (by decide)
   have c9:W4.cell? ⟨b9,0,none⟩=some (.int .i64 0):=cell_one (hB4.i 5 _ rfl).2.2
   have f9:W4.frozen? ⟨b9,0,none⟩=false:=frozen_of_row _ _ 0 _ _ (hB4.i 5 _ rfl).2.2
   have hKO5:=Lib.hid (hKO.out.trans (hKO4.trans (KeepsOthers.setCell W4 ⟨b9,0,none⟩ (.int .i64 (Er k)))))
   have HB5:=Lib.hid hB5
   have HW5:=Lib.hid hW5
   clear hB5 hW5 hB4 hW4 hB3 hW3 hT hKO hKO4 r10 c5 r12 hEN hB2 hW2 hE1
   by_cases hEr:Er k=0
   ·rw[hEr] at HB5 HW5 hKO5 ⊢
    gi_wp2_with (refine wpListIn_store_mid rfl 24 (.tmp 40) (.tmp 38) rfl b10 (k * 34) (Pt.pV (R k)).toArray rfl rfl (by rw[List.size_toArray,Pt.pL]; exact th10) (Pt.sizeP' _) (Pt.pV_all _) ?_; simp only[Act.put]; rw[←hw4]; clear hw4 th10)
    refine afterRd.n hKO5.out ?_
    rw[HI0.out]
    exact⟨fun j h1 h2=>by
     by_cases e:j=k
     ·rw[e]; exact hEr
     ·exact hE j (by omega) h2,gv3,HW5.out,Bx.drop (M:=[(b12,(Pt.pV (Q k)).toArray,24)]) HB5.out⟩
   ·gi_wp2_with (refine wpListIn_store_mid rfl 24 (.tmp 40) (.tmp 38) rfl b10 (k * 34) (Pt.pV (R k)).toArray rfl rfl (by rw[List.size_toArray,Pt.pL]; exact th10) (Pt.sizeP' _) (Pt.pV_all _) ?_; simp only[Act.put]; rw[←hw4]; clear hw4 th10)
    clear c9 f9
    generalize W4.setCell ⟨b9,0,none⟩ (.int .i64 (Er k))=W5 at HB5 HW5 hKO5 ⊢
    have hbd:Below W5.heap.size W5 W5.drew:=drawn_below W5
    have hW6:=HW5.out.below hbd
    have hB6:=HB5.out.below HW5.out hbd
    have hKO6:=hKO5.out.trans (KeepsOthers.drew W5)
    refine wpIn_region_any (by kernel_rfl) ?_
    change wpAnyIn _ _ _ _ _ _ _ _ _ (World.drew _)
    generalize W5.drew=W6 at hW6 hB6 hKO6 ⊢
    clear HB5 HW5 hKO5 hbd
    have c9:W6.cell? ⟨b9,0,none⟩=some (.int .i64 (Er k)):=cell_one (hB6.i 5 _ rfl).2.2
    have r6:W6.heap[w.heap.size+1+1]?=some (.cells (Pt.pV Pt.pz).toArray 24 (0,0)):=(hB6.i 2 _ rfl).2.2
    obtain⟨hW7,hB7⟩:=hB6.row hW6 (Nat.le_refl _) 2 (Pt.pV Pt.pz).toArray rfl (by decide) (by decide)
    have hKO7:=hKO6.trans (KeepsOthers.of_grownBy (Di.gR (w:=W6) (B:=w.heap.size+1+1) (Pt.pV Pt.pz).toArray) fun j o ej hj=>by
     cases ej
     rw[r6] at hj
     cases hj
     rfl)
    obtain⟨W7,hw7⟩:∃W7,W7=W6.setRow (w.heap.size+1+1) (Pt.pV Pt.pz).toArray:=⟨_,rfl⟩
    rw[←hw7] at hW7 hB7 hKO7
    have d9:W7.cell? ⟨b9,0,none⟩=some (.int .i64 (Er k)):=cell_one (hB7.i 5 _ rfl).2.2
    have d7:W7.cell? ⟨w.heap.size+1+1+1,0,none⟩=some (.int .i64 0):=cell_one (hB7.i 3 _ rfl).2.2
    have e7:W7.frozen? ⟨w.heap.size+1+1+1,0,none⟩=false:=frozen_of_row _ _ 0 _ _ (hB7.i 3 _ rfl).2.2
    obtain⟨hW8,hB8⟩:=hB7.cell hW7 (Nat.le_refl _) 3 (.int .i64 (Er k)) rfl (by decide) (by decide)
    have hKO8:=Lib.hid (hKO7.trans (KeepsOthers.setCell W7 ⟨w.heap.size+1+1+1,0,none⟩ (.int .i64 (Er k))))
    have HX8:Hid (X0 (W7.setCell ⟨w.heap.size+1+1+1,0,none⟩ (.int .i64 (Er k)))):=by
     rw[HX0.out]
     exact Lib.hid ⟨k,hk,fun j h1 h2=>hE j (by omega) h2,hEr,gv3,hW8,Bx.drop (M:=[(b12,(Pt.pV (Q k)).toArray,24)]) hB8⟩
    have HW7:=Lib.hid hw7
    clear hw7 hW8 hB8 hW7 hB7 hKO7 hW6 hB6 hKO6
    refine wpAnyIn_ready (rs:=[0,1]) (by kernel_rfl) (by simp) ?_
    refine AllReadyIn.cons rfl (fun K hK=>?_) ?_
    ·refine want_yes rfl ?_
     refine wpIn_buildV 24 #[] rfl (Pt.pV Pt.pz).toArray (by simp only[List.map_toArray,List.map_nil]; exact Pt.builtZ) ?_
     simp only[Act.put,aA]
     refine hK _ _ ?_
     clear hK K
     refine wpAnyIn_ready (rs:=[1,2]) (by kernel_rfl) (by simp) ?_
     refine AllReadyIn.cons rfl (fun K hK=>?_) ?_
     ·refine want_yes rfl ?_
      go_simp
      refine hK _ _ ?_
      clear hK K
      refine wpAnyIn_ready (rs:=[2]) (by kernel_rfl) (by simp) ?_
      refine AllReadyIn.cons rfl (fun K hK=>?_) ?_
      ·refine want_yes rfl ?_
       refine wpIn_store_row 24 (.tmp 6) (.tmp 43) rfl (w.heap.size+1+1) (Pt.pV Pt.pz).toArray rfl rfl 24 _ r6 (Pt.sizeP' _) rfl (Pt.pV_all _) ?_
       simp only[Act.put]
       rw[←HW7.out]
       refine hK _ _ ?_
       clear hK K
       refine wpAnyIn_ready (rs:=[3]) (by kernel_rfl) (by simp) ?_
       refine AllReadyIn.cons rfl (fun K hK=>?_) ?_
       ·refine want_yes rfl ?_
        go_simp
        refine hK _ _ ?_
        clear hK K
        refine wpAnyIn_done (by kernel_rfl) ?_ _
        gi_wp2
        exact afterRd.r hKO8.out HX8.out
       exact AllReadyIn.nil
      exact AllReadyIn.nil
     refine AllReadyIn.cons rfl (fun K hK=>?_) ?_
     ·refine want_yes rfl ?_
      refine wpIn_store_row 24 (.tmp 6) (.tmp 43) rfl (w.heap.size+1+1) (Pt.pV Pt.pz).toArray rfl rfl 24 _ r6 (Pt.sizeP' _) rfl (Pt.pV_all _) ?_
      simp only[Act.put]
      rw[←HW7.out]
      refine hK _ _ ?_
      clear hK K
      refine wpAnyIn_ready (rs:=[1]) (by kernel_rfl) (by simp) ?_
      refine AllReadyIn.cons rfl (fun K hK=>?_) ?_
      ·refine want_yes rfl ?_
       go_simp
       refine hK _ _ ?_
       clear hK K
       refine wpAnyIn_ready (rs:=[3]) (by kernel_rfl) (by simp) ?_
       refine AllReadyIn.cons rfl (fun K hK=>?_) ?_
       ·refine want_yes rfl ?_
        go_simp
        refine hK _ _ ?_
        clear hK K
        refine wpAnyIn_done (by kernel_rfl) ?_ _
        gi_wp2
        exact afterRd.r hKO8.out HX8.out
       exact AllReadyIn.nil
      exact AllReadyIn.nil
     exact AllReadyIn.nil
    refine AllReadyIn.cons rfl (fun K hK=>?_) ?_
    ·refine want_yes rfl ?_
     go_simp
     refine hK _ _ ?_
     clear hK K
     refine wpAnyIn_ready (rs:=[0]) (by kernel_rfl) (by simp) ?_
     refine AllReadyIn.cons rfl (fun K hK=>?_) ?_
     ·refine want_yes rfl ?_
      refine wpIn_buildV 24 #[] rfl (Pt.pV Pt.pz).toArray (by simp only[List.map_toArray,List.map_nil]; exact Pt.builtZ) ?_
      simp only[Act.put,aA]
      refine hK _ _ ?_
      clear hK K
      refine wpAnyIn_ready (rs:=[2]) (by kernel_rfl) (by simp) ?_
      refine AllReadyIn.cons rfl (fun K hK=>?_) ?_
      ·refine want_yes rfl ?_
       refine wpIn_store_row 24 (.tmp 6) (.tmp 43) rfl (w.heap.size+1+1) (Pt.pV Pt.pz).toArray rfl rfl 24 _ r6 (Pt.sizeP' _) rfl (Pt.pV_all _) ?_
       simp only[Act.put]
       rw[←HW7.out]
       refine hK _ _ ?_
       clear hK K
       refine wpAnyIn_ready (rs:=[3]) (by kernel_rfl) (by simp) ?_
       refine AllReadyIn.cons rfl (fun K hK=>?_) ?_
       ·refine want_yes rfl ?_
        go_simp
        refine hK _ _ ?_
        clear hK K
        refine wpAnyIn_done (by kernel_rfl) ?_ _
        gi_wp2
        exact afterRd.r hKO8.out HX8.out
       exact AllReadyIn.nil
      exact AllReadyIn.nil
     exact AllReadyIn.nil
    exact AllReadyIn.nil
  case stop=>
   rintro D W8 hD ⟨k,hk,hE,hne,gv3,hWt,hBx⟩ hKD
   obtain⟨rfl,rfl,rfl,rfl,rfl⟩:=HEE.out k hk hE hne
   obtain⟨h1,h2,h3⟩:=e_rec (M:=[]) hWt hBx (by have:=HWW.out; omega) hKD
   refine wpIn_wide.2 ?_
   go_wp2_with fail
   refine⟨by simp,.inl ⟨_,_,rfl,run_takeDeferred hKD,?_⟩⟩
   exact⟨_,results_pe rfl rfl rfl h2 h3,rfl,gv3,h1⟩
  case done=>
   rintro D W8 hD ⟨hE,gv0,hWt,hBx⟩ hKD
   rw[eR_0] at hBx
   have hRR:=HRR.out (fun j hj=>hE j (Nat.zero_le _) hj)
   have hDw:w.heap.size≤D:=by have:=HWW.out; omega
   have hr10:W8.rangeAt b10 0 (Pt.f3 R):=row_any (hBx.i 6 _ rfl).2.2
   have hr8:W8.rangeAt b8 0 (Pt.f3 Q):=row_any (hBx.i 4 _ rfl).2.2
   have r4:W8.heap[w.heap.size]?=some (.cells (Pt.pV p).toArray 24 (0,0)):=(hBx.i 0 _ rfl).2.2
   have k4:Lk V wb gv0 W8 w.heap.size:=(hBx.i 0 _ rfl).2.1
   have hr4:=Pt.rP r4
   clear HEE HDO HRR h0 h3 HFF
   cases he:Pt.eq3 R Q with
   | true=>
    rw[if_pos he] at hRR
    obtain⟨rfl,rfl,rfl,rfl,rfl⟩:=hRR
    obtain⟨W9,hw9,r6,c7,f7,_,hfin⟩:=e_fin (M:=[]) hWt hBx rp
    have HFIN:=Lib.hid (hfin 0)
    have HWT:=Lib.hid hWt
    clear hfin hWt hBx
    go_wp2_with (first | (refine wpList_load_mid rfl 83 (.tmp 10) rfl b10 0 rfl (Pt.f3 R) _ (by exact hr10) Pt.und3 rfl (Pt.size3 R) ?_; simp only[Act.put,aA]) | (refine wpList_load_mid rfl 83 (.tmp 8) rfl b8 0 rfl (Pt.f3 Q) _ (by exact hr8) Pt.und3 rfl (Pt.size3 Q) ?_; simp only[Act.put,aA]) | (refine @wpList_eqlV _ _ _ _ _ _ _ 83 83 (.tmp 45) (.tmp 46) rfl (by kernel_rfl) (Pt.f3 R).toArray (Pt.f3 Q).toArray rfl rfl true Pt.guard3 (by rw[Pt.eq_3d,he]) ?_; simp only[Act.put,aA]) | (refine wpList_load_mid rfl 24 (.tmp 4) rfl w.heap.size 0 rfl (Pt.pV rp) _ (by exact hr4) Pt.undP rfl (Pt.sizeP rp) ?_; simp only[Act.put,aA]) | (refine @wpList_store_row _ _ _ _ _ _ _ rfl 24 (.tmp 6) (.tmp 48) rfl (w.heap.size+1+1) (Pt.pV rp).toArray rfl rfl 24 _ r6 (Pt.sizeP' _) rfl (Pt.pV_all _) ?_; simp only[Act.put]; rw[←hw9]; clear hw9))
    obtain⟨hko,hw9,hb9⟩:=HFIN.out
    have hK9:=hko.same D _ hKD rfl
    obtain⟨g1,g2,g3⟩:=e_rec (M:=[]) hw9 hb9 hDw hK9
    refine⟨by simp,.inl ⟨_,_,rfl,run_takeDeferred hK9,?_⟩⟩
    exact⟨_,results_pe rfl rfl rfl g2 g3,by first | exact⟨rfl,_,g1⟩ | exact⟨_,rfl,g1⟩⟩
   | false=>
    rw[if_neg (by rw[he]; decide)] at hRR
    go_wp2_with (first | (refine wpList_load_mid rfl 83 (.tmp 10) rfl b10 0 rfl (Pt.f3 R) _ (by exact hr10) Pt.und3 rfl (Pt.size3 R) ?_; simp only[Act.put,aA]) | (refine wpList_load_mid rfl 83 (.tmp 8) rfl b8 0 rfl (Pt.f3 Q) _ (by exact hr8) Pt.und3 rfl (Pt.size3 Q) ?_; simp only[Act.put,aA]) | (refine @wpList_eqlV _ _ _ _ _ _ _ 83 83 (.tmp 45) (.tmp 46) rfl (by kernel_rfl) (Pt.f3 R).toArray (Pt.f3 Q).toArray rfl rfl false Pt.guard3 (by rw[Pt.eq_3d,he]) ?_; simp only[Act.put,aA]))
    have hb10:b10 < W8.heap.size:=(hBx.i 6 _ rfl).2.1.lt
    cases hh:Pt.eq3 R (fun _=>Pt.hole) with
    | true=>
     rw[if_pos hh] at hRR
     obtain⟨rfl,rfl,rfl,rfl,rfl⟩:=hRR
     refine wp_region_quiet (C:=fun w'=>Below W8.heap.size W8 w') (by kernel_rfl) (by kernel_rfl) ⟨rfl,rfl,rfl,Nat.le_refl _,fun _ _=>rfl⟩ ?_
     refine q_loadB 83 (.tmp 10) rfl rfl b10 0 rfl (Pt.f3 R) _ (fun w' hw'=>fun i v hv=>(hw'.cell (p:=⟨b10,0+i,none⟩) hb10).trans (hr10 i v hv)) Pt.und3 rfl (Pt.size3 R) ?_
     simp only[Act.put,aA]
     refine q_call 72 _ (.agg (Pt.f3 fun _=>Pt.hole).toArray) rfl (fun w'=>by go_simp) (fun w' hw'=>(holes_any w').mono fun e w'' ⟨he,hb⟩=>⟨he,hw'.trans (hb.mono hw'.size)⟩) ?_
     simp only[Act.put,aA]
     refine q_eqlV 83 _ (.tmp 49) (.tmp 50) rfl rfl ((Pt.f3 R).toArray) ((Pt.f3 fun _=>Pt.hole).toArray) rfl rfl true Pt.guard3 (fun w' _=>by rw[Pt.eq_3d,hh]) ?_
     simp only[Act.put,aA]
     refine wpQuiet_nil ?_
     intro W9 hb9
     have hW9:=hWt.below hb9
     have hB9:=hBx.below hWt hb9
     have hK9:=(hb9.block D (Array.getElem?_eq_some_iff.1 hKD).1).trans hKD
     have R5:=Lib.hid ((hB9.i 0 _ rfl).2.2)
     have K5:=Lib.hid ((hB9.i 0 _ rfl).2.1)
     have HW9:=Lib.hid hW9
     have HB9:=Lib.hid hB9
     have HS9:=Lib.hid hW9.self
     have HDK:=Lib.hid hK9
     clear hWt hBx hb9 hr10 hr8 hr4 r4 k4 hb10 hW9 hB9 hK9 hKD
     go_wp2_with fail
     refine QuietTail2.regionInv (n:=11) (Inv:=EgInv _ _ _ _ _ _ _ _ _ _ _ _ _ _ _ _ _ _ _ _ _ _ _ _ _ _ _ _ _ _ _ _ _ _ _ _ _ _ _ _ _ _ _ _ _ _ _ _ _ _ _ _ _ _ _ _ _ _ _ _ _ _ _ _ _ _ W9 W9 V wb gv0 q (Xs 0) (fs 0) st (Gs 0) w.heap.size p [{ target:=.collected D,args:=#[] }]) (by kernel_rfl) (by decide) (by kernel_rfl) ⟨_,_,_,_,_,_,_,_,_,_,rfl,Fa.none _,Od.none _,?_⟩ ?step ?fin
     exact Ga.start HS9.out
     case step=>
      rintro i o hi ho L a' w' ⟨u0,u1,u2,u3,u4,u5,u6,u7,u8,u9,rfl,TF,TO,TW⟩ hL hpre
      match i,hi with
      | 0,_=>
       simp at ho
       subst ho
       go_simp
       exact⟨_,u1,u2,u3,u4,u5,u6,u7,u8,u9,rfl,TF.set 0,TO.set 0 trivial,TW⟩
      | 1,_=>
       simp at ho
       subst ho
       go_simp
       exact⟨u0,_,u2,u3,u4,u5,u6,u7,u8,u9,rfl,TF.set 1,TO.set 1 trivial,TW⟩
      | 2,_=>
       simp at ho
       subst ho
       obtain rfl:=TF.2.1 (hpre 1 (by kernel_rfl))
       go_simp
       exact⟨u0,_,_,u3,u4,u5,u6,u7,u8,u9,rfl,TF.set 2,TO.set 2 trivial,TW⟩
      | 3,_=>
       simp at ho
       subst ho
       obtain rfl:=TF.2.2.1 (hpre 2 (by kernel_rfl))
       go_simp
       exact⟨u0,u1,_,_,u4,u5,u6,u7,u8,u9,rfl,TF.set 3,TO.set 3 trivial,TW⟩
      | 4,_=>
       simp at ho
       subst ho
       obtain rfl:=TF.2.2.2.1 (hpre 3 (by kernel_rfl))
       have hn7:L 7=false:=by cases e:L 7 with | false=>rfl | true=>exact absurd (TO.1 e) (by rw[hL]; decide)
       have hgc:=(TW.e0 hn7).1.gone hst
       go_simp
       exact⟨u0,u1,u2,_,_,u5,u6,u7,u8,u9,rfl,TF.set 4,TO.set 4 trivial,TW⟩
      | 5,_=>
       simp at ho
       subst ho
       have hn6:L 6=false:=by cases e:L 6 with | false=>rfl | true=>exact absurd (TO.2.2.1 e) (by rw[hL]; decide)
       have hn7:L 7=false:=by cases e:L 7 with | false=>rfl | true=>exact absurd (TO.2.1 e) (by rw[hn6]; decide)
       refine wp_load_mid 24 (.tmp 4) rfl w.heap.size 0 rfl (Pt.pV p) _ (Pt.rP (((TW.e0 hn7).2 _ K5.out).1.trans R5.out)) Pt.undP rfl (Pt.sizeP p) ?_
       simp only[Act.put,aA]
       exact⟨u0,u1,u2,u3,u4,_,u6,u7,u8,u9,rfl,TF.set 5,TO.set 5 trivial,TW⟩
      | 6,_=>
       simp at ho
       subst ho
       obtain rfl:=TF.2.2.2.2.2.1 (hpre 5 (by kernel_rfl))
       have hn7:L 7=false:=by cases e:L 7 with | false=>rfl | true=>exact absurd (TO.2.1 e) (by rw[hL]; decide)
       refine wp_sliceP p (.tmp 57) rfl rfl ?_
       simp only[Act.put,aA]
       exact⟨u0,u1,u2,u3,u4,_,_,u7,u8,u9,rfl,TF.set 6,TO.set 6 ⟨hpre 5 (by kernel_rfl),trivial⟩,(TW.slice hn7)⟩
      | 7,_=>
       simp at ho
       subst ho
       have h0:=TW.e0 hL
       refine wp_appAny (.tmp 56) (.tmp 58) rfl 1 1 gv0 u6 (Gs 0) [p] (TF.2.2.2.2.1 (hpre 4 (by kernel_rfl))) h0.1.o rfl (TW.sl (hpre 6 (by kernel_rfl)) hL) (by simp; omega) (by have:=h0.1.v.lt; omega) ?_
       intro v7 w7 ho7 hg7 hl7
       simp only[Act.put,aA]
       exact⟨u0,u1,u2,u3,u4,u5,u6,_,u8,u9,rfl,TF.set 7,TO.set 7 ⟨hpre 4 (by kernel_rfl),hpre 6 (by kernel_rfl),trivial⟩,(TW.app hL ho7 hg7 hl7)⟩
      | 8,_=>
       simp at ho
       subst ho
       obtain rfl:=TF.1 (hpre 0 (by kernel_rfl))
       go_simp
       exact⟨_,u1,u2,u3,u4,u5,u6,u7,_,u9,rfl,TF.set 8,TO.set 8 trivial,TW⟩
      | 9,_=>
       simp at ho
       subst ho
       obtain rfl:=TF.2.2.2.2.2.2.1 (hpre 8 (by kernel_rfl))
       go_simp
       exact⟨u0,u1,u2,u3,u4,u5,u6,u7,_,_,rfl,TF.set 9,TO.set 9 trivial,TW⟩
      | 10,_=>
       simp at ho
       subst ho
       obtain rfl:=TF.2.2.2.2.2.2.2.1 (hpre 9 (by kernel_rfl))
       obtain⟨w1,_,ho7,_⟩:=TW.e1 (hpre 7 (by kernel_rfl)) hL
       obtain⟨a7,n7,c7,he7⟩:∃a n c,u7=.slice a n c:=by obtain⟨a,c,e⟩:=ho7.shape; exact⟨a,_,c,e⟩
       subst he7
       have hr37:=TW.wb37 (hpre 7 (by kernel_rfl)) hL
       have hc37:w'.cell? ⟨wb,37,none⟩=some gv0:=wk_c37 hr37 hst
       have hf37:w'.frozen? ⟨wb,37,none⟩=false:=frozen_of_row _ _ _ _ _ hr37
       go_simp
       exact⟨u0,u1,u2,u3,u4,u5,u6,_,u8,_,rfl,TF.set 10,TO.set 10 trivial,(TW.store (hpre 7 (by kernel_rfl)) hL hst)⟩
      | i+11,h=>omega
     case fin=>
      rintro L a' w' hall ⟨u0,u1,u2,u3,u4,u5,u6,u7,u8,u9,rfl,TF,TO,hWD⟩
      rw[hall 6 (by omega),hall 7 (by omega),hall 10 (by omega)] at hWD
      clear TF TO
      refine wpList_nil ?_
      obtain⟨hwf,hkf⟩:=hWD.e2 rfl
      have hK7:=(hwf.others HW9.out).same D _ HDK.out rfl
      have hW7:=HW9.out.trans hwf
      have hB7:=HB9.out.keep hkf
      clear hWD hall R5 K5 HW9 HB9 HS9 HDK hwf hkf
      go_wp2_with fail
      refine(Pt.hole_any _).mono ?_
      rintro _ w11 ⟨rfl,hb11⟩
      dsimp only
      have hK11:=(hb11.block D (Array.getElem?_eq_some_iff.1 hK7).1).trans hK7
      obtain⟨W12,hw12,r6,c7,f7,_,hfin⟩:=e_fin (M:=[]) (hW7.below hb11) (hB7.below hW7 hb11) Pt.hole
      have HFIN:=Lib.hid (hfin 0)
      have HK:=Lib.hid hK11
      clear hfin hW7 hB7 hK7 hb11 hK11
      go_wp2_with (first | (refine @wpList_store_row _ _ _ _ _ _ _ rfl 24 (.tmp 6) (.tmp 62) rfl (w.heap.size+1+1) (Pt.pV Pt.hole).toArray rfl rfl 24 _ r6 (Pt.sizeP' _) rfl (Pt.pV_all _) ?_; simp only[Act.put]; rw[←hw12]; clear hw12))
      obtain⟨hko,hw9,hb9⟩:=HFIN.out
      have hK9:=hko.same D _ HK.out rfl
      obtain⟨g1,g2,g3⟩:=e_rec (M:=[]) hw9 hb9 hDw hK9
      refine⟨by simp,.inl ⟨_,_,rfl,run_takeDeferred hK9,?_⟩⟩
      exact⟨_,results_pe rfl rfl rfl g2 g3,by first | exact⟨rfl,_,g1⟩ | exact⟨_,rfl,g1⟩⟩
    | false=>
     rw[if_neg (by rw[hh]; decide)] at hRR
     obtain⟨hnd,p1,hrp,hrG,hadd⟩:=hRR
     have HRP:=Lib.hid hrp
     have HRG:=Lib.hid hrG
     clear hrp hrG
     refine wp_region_quiet (C:=fun w'=>Below W8.heap.size W8 w') (by kernel_rfl) (by kernel_rfl) ⟨rfl,rfl,rfl,Nat.le_refl _,fun _ _=>rfl⟩ ?_
     refine q_loadB 83 (.tmp 10) rfl rfl b10 0 rfl (Pt.f3 R) _ (fun w' hw'=>fun i v hv=>(hw'.cell (p:=⟨b10,0+i,none⟩) hb10).trans (hr10 i v hv)) Pt.und3 rfl (Pt.size3 R) ?_
     simp only[Act.put,aA]
     refine q_call 72 _ (.agg (Pt.f3 fun _=>Pt.hole).toArray) rfl (fun w'=>by go_simp) (fun w' hw'=>(holes_any w').mono fun e w'' ⟨he,hb⟩=>⟨he,hw'.trans (hb.mono hw'.size)⟩) ?_
     simp only[Act.put,aA]
     refine q_eqlV 83 _ (.tmp 49) (.tmp 50) rfl rfl ((Pt.f3 R).toArray) ((Pt.f3 fun _=>Pt.hole).toArray) rfl rfl false Pt.guard3 (fun w' _=>by rw[Pt.eq_3d,hh]) ?_
     simp only[Act.put,aA]
     refine wpQuiet_nil ?_
     intro W9 hb9
     have hW9:=hWt.below hb9
     have hB9:=hBx.below hWt hb9
     have hK9:=(hb9.block D (Array.getElem?_eq_some_iff.1 hKD).1).trans hKD
     have r10:W9.heap[b10]?=some (.cells (Pt.f3 R).toArray 83 (0,0)):=(hB9.i 6 _ rfl).2.2
     have l10:b10 < W9.heap.size:=(hB9.i 6 _ rfl).2.1.lt
     have HADD:=Lib.hid hadd
     clear hWt hBx hb9 hr10 hr8 hr4 r4 k4 hb10 hKD hadd
     go_wp2_with fail
     refine(Pt.node_any 3 R (some ⟨b10,0,none⟩) 3 W9.heap.size W9 ⟨Nat.le_refl _,(fun e=>by cases e),.inr ⟨b10,0,rfl,l10,by omega,fun i hi=>by rw[Nat.zero_add]; exact f3_row r10 hi⟩⟩ (by omega)).mono ?_
     rintro _ w11 ⟨rfl,hb11⟩
     dsimp only
     rw[hnd]
     have hW11:=hW9.below hb11
     have hB11:=hB9.below hW9 hb11
     have hK11:=(hb11.block D (Array.getElem?_eq_some_iff.1 hK9).1).trans hK9
     clear hW9 hB9 hK9 r10 l10 hb11 hnd
     obtain⟨W12,hw12⟩:∃W12,W12=w11.alloc (.cells (bl (Pt.ndV 3 R)).toArray 47):=⟨_,rfl⟩
     obtain⟨hW12,hB12⟩:=hB11.new hW11 (by have:=hW11.sz; omega) (bl (Pt.ndV 3 R)).toArray 47
     rw[←hw12] at hW12 hB12
     have hK12:W12.heap[D]?=some (.deferred (some [])):=by rw[hw12]; exact(Below.heap_alloc _ _ _ (by have:=(Array.getElem?_eq_some_iff.1 hK11).1; omega)).trans hK11
     have d9:W12.cell? ⟨b9,0,none⟩=some (.int .i64 0):=cO (hB12.i 5 _ rfl).2.2
     have f9:W12.frozen? ⟨b9,0,none⟩=false:=frozen_of_row _ _ 0 _ _ (hB12.i 5 _ rfl).2.2
     obtain⟨hW13,hB13⟩:=hB12.cell hW12 (Nat.le_refl _) 5 (.int .i64 0) rfl (by decide) (by decide)
     have hK13:=(KeepsOthers.setCell W12 ⟨b9,0,none⟩ (.int .i64 0)).same D _ hK12 rfl
     have hr4:(W12.setCell ⟨b9,0,none⟩ (.int .i64 0)).rangeAt w.heap.size 0 (Pt.pV p):=Pt.rP (hB13.i 0 _ rfl).2.2
     have hr13:(W12.setCell ⟨b9,0,none⟩ (.int .i64 0)).rangeAt w11.heap.size 0 (bl (Pt.ndV 3 R)):=row_any (hB13.i 8 _ rfl).2.2
     have HW13:=Lib.hid hW13
     have HB13:=Lib.hid hB13
     have HK13:=Lib.hid hK13
     clear hW12 hB12 hK12 hW11 hB11 hK11 hW13 hB13 hK13
     go_wp2_with (first | (refine @wpList_store_row _ _ _ _ _ _ _ rfl 47 (.tmp 13) (.tmp 66) rfl w11.heap.size (bl (Pt.ndV 3 R)).toArray rfl rfl 47 _ (heap_alloc_new w11 _) (by rw[List.size_toArray]; exact sB _) rfl (all_oneCell_toArray (bl_one _)) ?_; simp only[Act.put]; rw[World.setRow_alloc_new,←hw12]; clear hw12) | (refine wpList_load_mid rfl 24 (.tmp 4) rfl w.heap.size 0 rfl (Pt.pV p) _ (by exact hr4) Pt.undP rfl (Pt.sizeP p) ?_; simp only[Act.put,aA]) | (refine wpList_load_mid rfl 47 (.tmp 13) rfl w11.heap.size 0 rfl (bl (Pt.ndV 3 R)) _ (by exact hr13) undB rfl (sB (Pt.ndV 3 R)) ?_; simp only[Act.put,aA]))
     have hput:=put_any HW13.out.self hst p (Pt.ndV 3 R) 2 hGl HADD.out
     rw[←HRP.out,←HRG.out] at hput
     refine hput.mono ?_
     clear hput HRP HRG
     rintro _ w14 ⟨gv14,rfl,hT⟩
     dsimp only
     have hK14:=(hT.others HW13.out).same D _ HK13.out rfl
     obtain⟨W15,hw15,r6,c7,f7,_,hfin⟩:=e_fin (M:=[(w11.heap.size,(bl (Pt.ndV 3 R)).toArray,47)]) (HW13.out.trans hT) (HB13.out.wt hT) rp
     have HFIN:=Lib.hid (hfin rE)
     have HK:=Lib.hid hK14
     clear hfin HW13 HB13 HK13 HADD hK14 hT hr4 hr13
     go_wp2_with (first | (refine @wpList_store_row _ _ _ _ _ _ _ rfl 24 (.tmp 6) (.tmp 76) rfl (w.heap.size+1+1) (Pt.pV rp).toArray rfl rfl 24 _ r6 (Pt.sizeP' _) rfl (Pt.pV_all _) ?_; simp only[Act.put]; rw[←hw15]; clear hw15))
     obtain⟨hko,hw9,hb9⟩:=HFIN.out
     have hK9:=hko.same D _ HK.out rfl
     obtain⟨g1,g2,g3⟩:=e_rec (M:=[(w11.heap.size,(bl (Pt.ndV 3 R)).toArray,47)]) hw9 hb9 hDw hK9
     refine⟨by simp,.inl ⟨_,_,rfl,run_takeDeferred hK9,?_⟩⟩
     exact⟨_,results_pe rfl rfl rfl g2 g3,by first | exact⟨rfl,_,g1⟩ | exact⟨_,rfl,g1⟩⟩
end St
end Go.Proofs.YteaocagepfgfnaaGreatDoor
