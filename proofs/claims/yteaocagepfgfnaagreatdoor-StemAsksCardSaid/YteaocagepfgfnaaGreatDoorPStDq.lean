import Derived.Test.YteaocagepfgfnaaGreatDoorPStDl
import Derived.Test.YteaocagepfgfnaaGreatDoorPStDf
import Derived.Test.YteaocagepfgfnaaGreatDoorPQNw
import Derived.Test.YteaocagepfgfnaaGreatDoorPStB
import Derived.Test.YteaocagepfgfnaaGreatDoorPStL
import Derived.Test.YteaocagepfgfnaaGreatDoorPJPt
import Derived.Test.YteaocagepfgfnaaGreatDoorPAl
set_option maxRecDepth 100000
set_option maxHeartbeats 8000000
namespace Go.Proofs.YteaocagepfgfnaaGreatDoor
namespace St
open Go.RowKit Go.Shelf Dk Gm Eqb Rm Di Vl Qv Sp
open Vm (HasVol vM)
attribute [local go_sem] Pt.zvP Pt.zv3 zv29
attribute [local go_sem] Pt.zc3 zc29
variable {q:Qt}{X X':Dst}{f f':Nat→Int}
theorem deepen_no{w:World}{V:Pl}{wb:Nat}{gv:Value}{st:List Value}{G:List Pt.Pn}(hw:Wt w V wb gv q X f st gv G w)(p:Pt.Pn)(hp:Pt.isHole p=true)(d d2:Int) :
  Calls Tryz.prog 50 #[.pointer (some ⟨wb,0,none⟩),.agg (Pt.pV p).toArray,.int .i64 d,.int .i64 d2] w fun e w'=>∃gv2,e=.returned (.tuple #[.agg (Pt.pV p).toArray,.int .i64 0])∧Wt w V wb gv q X f st gv2 G w':=by
 obtain⟨W,hW,hwW,hsW,hbW,hbx,hkW⟩:=hw.boxes [((Pt.pV p).toArray,24),((Pt.pV Pt.pz).toArray,24)]
 obtain⟨r5,k5⟩:=hbx 0 _ rfl
 obtain⟨r8,k8⟩:=hbx 1 _ rfl
 have hWs:=hwW.sz
 have hr5:=Pt.rP r5
 have HI:=Lib.hid (fun W=>Pt.ishole_any p W)
 rw[hp] at HI
 have HWT:=Lib.hid hwW
 have K5:=Lib.hid (And.intro k5 r5)
 have K8:=Lib.hid (And.intro k8 r8)
 simp only[List.foldl_cons,List.foldl_nil] at hW
 clear hbx hw hkW k5 k8 r5 r8 hwW hbW
 go_enter Tryz.func50,Tryz.ntmps50
 go_upto_region 1 with fail
 rw[Pt.zrow,←hW]
 clear hW
 go_wp2_with (refine wpList_load_mid rfl 24 (.tmp 5) rfl w.heap.size 0 rfl (Pt.pV p) _ (by exact hr5) Pt.undP rfl (Pt.sizeP p) ?_; simp only[Act.put,aA])
 refine(HI.out W).mono ?_
 rintro _ w1 ⟨rfl,hb1⟩
 dsimp only
 obtain⟨g5,l5⟩:=K5.out.1.below HWT.out.v.lt hb1
 obtain⟨g8,l8⟩:=K8.out.1.below HWT.out.v.lt hb1
 have hr5':=Pt.rP (g5.trans K5.out.2)
 have hr8:=g8.trans K8.out.2
 have HW1:=Lib.hid (HWT.out.below hb1)
 clear hr5 hb1 HWT K5 K8 g5 g8 l5 HI
 go_wp2_with (first | (refine wpList_load_mid rfl 24 (.tmp 5) rfl w.heap.size 0 rfl (Pt.pV p) _ (by exact hr5') Pt.undP rfl (Pt.sizeP p) ?_; simp only[Act.put,aA]) | (refine @wpList_store_row _ _ _ _ _ _ _ rfl 24 (.tmp 8) (.tmp 14) rfl (w.heap.size+1) (Pt.pV p).toArray rfl rfl 24 _ hr8 (Pt.sizeP' _) rfl (Pt.pV_all _) ?_; simp only[Act.put]))
 refine bodyPost_ret (Pt.rTp rfl rfl rfl (setRow_heap _ _ _ _ _ _ hr8)) rfl ?_
 exact⟨gv,rfl,(HW1.out.row l8 (by omega) hr8 (by decide) (by decide) (gR _)).1⟩
theorem enters_resz:Enters Tryz.prog 48:=fun args w=>enters_of Tryz.func48 (by kernel_rfl) rfl args w
theorem one_box{w:World}{V:Pl}{sb:Nat}{cs:Array Value}{t:TypeId}(hv:HV w V q X f)(hk:Rm.Kp w)(hs:w.heap[sb]?=some (.cells cs t (0,0)))(ho:Off w V sb)(o1:Obj) :
  Below w.heap.size w (w.alloc o1)∧HV (w.alloc o1) V q X f∧Rm.Kp (w.alloc o1)∧(w.alloc o1).heap[sb]?=some (.cells cs t (0,0))∧Off (w.alloc o1) V sb∧
  (w.alloc o1).heap[w.heap.size]?=some o1∧Off (w.alloc o1) V w.heap.size∧w.heap.size < (w.alloc o1).heap.size:=by
 have hb:Below w.heap.size w (w.alloc o1):=(Below.refl _ _).alloc (Nat.le_refl _) _
 have hvl:=hv.lt
 have lb:=(Array.getElem?_eq_some_iff.1 hs).1
 exact⟨hb,hv.below hb,hk.below hb,(hb.block sb lb).trans hs,ho.below hvl hb,heap_alloc_new w o1,(Off.new hv (kq0 q) (Nat.le_refl _)).below hvl hb,by simp⟩
theorem resize_full{c:Nat}{P:(Nat→Int)→Prop}{s0 n:Int}{T:Tr}{R:List Hd}(h:Hs q c P s0 T R X f)(_hn:szB n=true){E:Int}{T':Tr}{f1:Nat→Int}{rp:Pt.Pn}{g:List Pt.Pn}{N:List Hd}(hgl:g.length≤1000000)(hP1:Py q X' f1 (T.held ++ R ++ N))
  (h0:E=0→rp=T'.root∧∃gh:List Hd,(T.held ++ N).Perm (T'.held ++ gh)∧gh.map Prod.fst=nh g)
  (hdo:∀(w:World) (V:Pl) (wb bi:Nat),Wt w V wb (.slice none 0 0) q X f (sV T.root s0 c) (.slice none 0 0) [] w→Lk V wb (.slice none 0 0) w bi→w.heap[bi]?=some (.cells #[.int .i64 n] 3 (0,0))→Calls Tryz.prog 48 #[.pointer (some ⟨wb,0,none⟩),.pointer (some ⟨bi,0,none⟩)] w fun e w'=>∃gv2,e=.returned (.int .i64 E)∧Wt w V wb (.slice none 0 0) q X' f1 (sV rp n c) gv2 g w') :
  ∃f',(E=0→Py q X' f' (T'.held ++ R)∧∀n,Rm2 q f1 n→Rm2 q f' n)∧(E≠0→f'=f∧Py q X' f (T.held ++ R))∧
   ∀(w:World) (V:Pl) (sb:Nat),HV w V q X f→Rm.Kp w→w.heap[sb]?=some (.cells (sV T.root s0 c).toArray 26 (0,0))→Off w V sb→sb≠0→
    Calls Tryz.prog 18 #[.pointer (some ⟨V.b,V.o,none⟩),.pointer (some ⟨sb,0,none⟩),.int .i64 n] w fun e w'=>e=.returned (.int .i64 E)∧Sw w V sb q X' f' (if E=0 then sV T'.root n c else sV T.root s0 c) w':=by
 obtain⟨hA,hB,hmn,_⟩:=root_mine h.py h.ok h.on
 have hon:=h.mine
 have hdo2:∀(w W':World) (V:Pl) (wb:Nat),HV w V q X f→Below w.heap.size w (w.alloc (.cells #[.int .i64 n] 3))→
   Below (w.alloc (.cells #[.int .i64 n] 3)).heap.size (w.alloc (.cells #[.int .i64 n] 3)) W'→
   (∀b,b < (w.alloc (.cells #[.int .i64 n] 3)).heap.size→Off (w.alloc (.cells #[.int .i64 n] 3)) V b→Lk V wb (.slice none 0 0) W' b)→
   Wt W' V wb (.slice none 0 0) q X f (sV T.root s0 c) (.slice none 0 0) [] W'→
   Calls Tryz.prog 48 (#[.pointer (some ⟨wb,0,none⟩)] ++ #[.pointer (some ⟨w.heap.size,0,none⟩)]) W' fun e w''=>∃gv2,e=.returned (.int .i64 E)∧Wt W' V wb (.slice none 0 0) q X' f1 (sV rp n c) gv2 g w'':=by
  intro w W' V wb hv hb hbW hLk hW'
  have hlt:w.heap.size < (w.alloc (.cells #[.int .i64 n] 3)).heap.size:=by simp
  exact hdo W' V wb w.heap.size hW' (hLk _ hlt ((Off.new hv (kq0 q) (Nat.le_refl _)).below hv.lt hb)) ((hbW.block _ hlt).trans (heap_alloc_new w _))
 by_cases hE:E=0
 ·obtain⟨e1,gh,hp1,hp2⟩:=h0 hE
  have hperm:(T.held ++ R ++ N).Perm ((T'.held ++ R) ++ gh):=by
   have a1:(T.held ++ R ++ N).Perm (T.held ++ N ++ R):=by
    rw[List.append_assoc,List.append_assoc]
    exact List.Perm.append_left _ List.perm_append_comm
   have a3:(T'.held ++ gh ++ R).Perm (T'.held ++ R ++ gh):=by
    rw[List.append_assoc,List.append_assoc]
    exact List.Perm.append_left _ List.perm_append_comm
   exact a1.trans ((hp1.append_right R).trans a3)
  obtain⟨fs,d1,d2,d3,d4⟩:=drop_t g f1 _ _ gh hP1 hperm hp2
  refine⟨fs g.length,fun _=>⟨d2,d3⟩,fun e=>absurd hE e,fun w V sb hv hk hs ho h0=>?_⟩
  obtain⟨b1,b2,b3,b4,b5,_⟩:=one_box hv hk hs ho (.cells #[.int .i64 n] 3)
  rw[if_pos hE]
  refine Resize_walk n ?_
  rw[←e1]
  refine(change_ok b2 b3 T.root s0 c hA hB b4 b5 h0 hon _ _ enters_resz hE hgl fs d1 (fun j p hj w' hk' hv'=>d4 V j p hj w' hk' hv') fun W' wb hbW hLk hW'=>hdo2 w W' V wb hv b1 hbW hLk hW').mono ?_
  rintro e w' ⟨a1,a2⟩
  exact⟨by rw[a1,hE],a2.from b1 hv.lt⟩
 ·refine⟨f,fun e=>absurd e hE,fun _=>⟨rfl,h.py.back hP1⟩,fun w V sb hv hk hs ho h0=>?_⟩
  obtain⟨b1,b2,b3,b4,b5,_⟩:=one_box hv hk hs ho (.cells #[.int .i64 n] 3)
  rw[if_neg hE]
  refine Resize_walk n ?_
  refine(change_err b2 b3 T.root s0 c hA hB b4 b5 h0 hon _ _ enters_resz hE fun W' wb hbW hLk hW'=>hdo2 w W' V wb hv b1 hbW hLk hW').mono ?_
  rintro e w' ⟨a1,a2⟩
  exact⟨a1,a2.from b1 hv.lt⟩
theorem ok_no(d:Nat):Tr.ok d .no:=by cases d <;> exact trivial
theorem resize_hole{c:Nat}{P:(Nat→Int)→Prop}{s0 n:Int}{R:List Hd}(h:Hs q c P s0 .no R X f)(hn:szB n=true)(hle:¬ lvI n < lvI s0) :
  ∃f',Hs q c P n .no R X f'∧(∀m,Rm2 q f m→Rm2 q f' m)∧∀(w:World) (V:Pl) (sb:Nat),HV w V q X f→Rm.Kp w→w.heap[sb]?=some (.cells (sV Pt.hole s0 c).toArray 26 (0,0))→Off w V sb→sb≠0→
    Calls Tryz.prog 18 #[.pointer (some ⟨V.b,V.o,none⟩),.pointer (some ⟨sb,0,none⟩),.int .i64 n] w fun e w'=>e=.returned (.int .i64 0)∧Sw w V sb q X f' (sV Pt.hole n c) w':=by
 obtain⟨f',k1,_,k3⟩:=resize_full (T':=.no) (rp:=Pt.hole) (g:=[]) (N:=[]) (E:=0) h hn (by simp) (by rw[List.append_nil]; exact h.py) (fun _=>⟨rfl,[],by simp,rfl⟩)
  fun w V wb bi hw hl hr=>resz_de hw hl hr hn h.sz hle fun w' hw'=>deepen_no hw'.self Pt.hole isHole_hole _ _
 obtain⟨k4,k5⟩:=k1 rfl
 refine⟨f',⟨k4,ok_no _,h.cp,h.al,hn,h.cc⟩,k5,fun w V sb hv hk hs ho h0=>?_⟩
 have:=k3 w V sb hv hk hs ho h0
 rw[if_pos rfl] at this
 exact this
end St
namespace St
open Go.RowKit Dk Gm Eqb Rm Di Vl Qv
open Vm (vM)
def lz(F:Nat→Bool)(n:Nat):Bool:=(List.range n).all F
theorem lz_iff{F:Nat→Bool}{n:Nat}:lz F n=true↔∀j,j < n→F j=true:=by
 unfold lz
 rw[List.all_eq_true]
 exact⟨fun h j hj=>h j (List.mem_range.2 hj),fun h j hj=>h j (List.mem_range.1 hj)⟩
def cst(c:Nat):Nat→(Nat→Bool)→Nat
 | 0,F=>if F 0 then 0 else c
 | d+1,F=>(if lz F (wd (d+1)) then 0 else 2)+(cst c d (fun j=>F (0 * wd d+j))+cst c d (fun j=>F (1 * wd d+j))+cst c d (fun j=>F (2 * wd d+j)))
theorem cst_congr(c:Nat):∀(d:Nat) {F F':Nat→Bool},(∀j,j < wd d→F j=F' j)→cst c d F=cst c d F'
 | 0,F,F',h=>by rw[cst,cst,h 0 (by decide)]
 | d+1,F,F',h=>by
  have e:lz F (wd (d+1))=lz F' (wd (d+1)):=by
   rw[Bool.eq_iff_iff,lz_iff,lz_iff]
   exact⟨fun g j hj=>(h j hj).symm.trans (g j hj),fun g j hj=>(h j hj).trans (g j hj)⟩
  have hw:wd (d+1)=3 * wd d:=rfl
  rw[cst,cst,e,cst_congr c d (F:=fun j=>F (0 * wd d+j)) (F':=fun j=>F' (0 * wd d+j)) fun j hj=>h _ (by omega),
   cst_congr c d (F:=fun j=>F (1 * wd d+j)) (F':=fun j=>F' (1 * wd d+j)) fun j hj=>h _ (by omega),
   cst_congr c d (F:=fun j=>F (2 * wd d+j)) (F':=fun j=>F' (2 * wd d+j)) fun j hj=>h _ (by omega)]
def Tr.z(d:Nat)(T:Tr)(j:Nat):Bool:=Wd.zeroB (T.at d j) 128
theorem z_ch{d:Nat}(T:Tr){k j:Nat}(hj:j < wd d):T.z (d+1) (k * wd d+j)=(T.ch k).z d j:=by
 unfold Tr.z
 have e1:(k * wd d+j) / wd d=k:=by
  rw[Nat.mul_comm,Nat.mul_add_div (wd_pos d),Nat.div_eq_of_lt hj,Nat.add_zero]
 have e2:(k * wd d+j) % wd d=j:=by
  rw[Nat.mul_comm,Nat.mul_add_mod,Nat.mod_eq_of_lt hj]
 have e3:T.at (d+1) (k * wd d+j)=(T.ch ((k * wd d+j) / wd d)).at d ((k * wd d+j) % wd d):=by cases T <;> rfl
 rw[e3,e1,e2]
theorem z_no(d j:Nat):Tr.z d .no j=true:=by
 unfold Tr.z
 rw[at_no]
 exact Wd.zeroB_true.2 fun _ _=>rfl
theorem z_some:∀{d:Nat} {T:Tr},T.ok d→T≠.no→∃j,j < wd d∧T.z d j=false
 | 0,.no,_,h=>absurd rfl h
 | 0,.leaf p b,ho,_=>⟨0,by decide,ho⟩
 | 0,.node ..,ho,_=>ho.elim
 | d+1,.no,_,h=>absurd rfl h
 | d+1,.leaf ..,ho,_=>ho.elim
 | d+1,.node p a b c,ho,_=>by
  obtain⟨h0,h1,h2,hn,_⟩:=ho
  have hw:wd (d+1)=3 * wd d:=rfl
  by_cases e0:a=.no
  ·by_cases e1:b=.no
   ·obtain⟨j,hj,hz⟩:=z_some h2 (fun e2=>hn ⟨e0,e1,e2⟩)
    exact⟨2 * wd d+j,by omega,by rw[z_ch _ hj]; exact hz⟩
   ·obtain⟨j,hj,hz⟩:=z_some h1 e1
    exact⟨1 * wd d+j,by omega,by rw[z_ch _ hj]; exact hz⟩
  ·obtain⟨j,hj,hz⟩:=z_some h0 e0
   exact⟨0 * wd d+j,by omega,by rw[z_ch _ hj]; exact hz⟩
theorem lz_no{d:Nat}{T:Tr}(ho:T.ok d):lz (T.z d) (wd d)=true↔T=.no:=by
 rw[lz_iff]
 refine⟨fun h=>Classical.byContradiction fun hn=>?_,fun e j _=>by rw[e]; exact z_no d j⟩
 obtain⟨j,hj,hz⟩:=z_some ho hn
 rw[h j hj] at hz
 cases hz
theorem cst_no(c:Nat):∀d,cst c d (Tr.z d .no)=0
 | 0=>by rw[cst,z_no]; rfl
 | d+1=>by
  have e:=(lz_no (T:=.no) (d:=d+1) trivial).2 rfl
  have hk:∀k,cst c d (fun j=>Tr.z (d+1) .no (k * wd d+j))=0:=fun k=>by
   rw[cst_congr c d (F':=Tr.z d .no) fun j hj=>by rw[z_no,z_no]]
   exact cst_no c d
  rw[cst,e,hk,hk,hk]
  rfl
variable {q:Qt}{X:Dst}{f:Nat→Int}{H:List Hd}
theorem secs_two{p:Pt.Pn}(hA:p.A≠-1)(hB:p.B≠-1):(Sp.secs p).length=2:=by
 unfold Sp.secs Sp.sec1
 rw[if_neg hA,if_neg hB]
 rfl
theorem secs_one{p:Pt.Pn}(hA:p.A≠-1)(hB:p.B = -1):(Sp.secs p).length=1:=by
 unfold Sp.secs Sp.sec1
 rw[if_neg hA,if_pos hB]
 rfl
theorem held_cst{c:Nat}(hc:c=1∨c=2)(hP:Py q X f H):∀{d:Nat} {T:Tr},T.ok d→T.on H→T.cp c→(Vp.sx (Vp.ps T.held)).length=cst c d (T.z d)
 | d,.no,_,_,_=>by rw[cst_no]; rfl
 | 0,.leaf p b,ho,hon,hcp=>by
  have hm:(p,b) ∈ H:=hon _ (by simp[Tr.held])
  obtain⟨hA,hz,_⟩:=el_A (hP.el _ hm) (.inl ho)
  have hz':Tr.z 0 (.leaf p b) 0=false:=hz
  rw[cst,hz']
  show(Sp.secs p ++ []).length=if false=true then 0 else c
  rw[List.append_nil,if_neg (by decide)]
  have hcp':p.B = -1↔(c:Int)=1:=hcp
  rcases hc with rfl | rfl
  ·exact secs_one hA (hcp'.2 rfl)
  ·exact secs_two hA (fun e=>absurd (hcp'.1 e) (by decide))
 | 0,.node ..,ho,_,_=>ho.elim
 | d+1,.leaf ..,ho,_,_=>ho.elim
 | d+1,.node p a b e,ho,hon,hcp=>by
  have hm:(p,nb (p3 a.root b.root e.root)) ∈ H:=hon _ (by simp[Tr.held])
  obtain⟨h0,h1,h2,hn,hB⟩:=ho
  obtain⟨hA,_,_⟩:=el_A (hP.el _ hm) (.inr hB)
  obtain⟨c0,c1,c2⟩:=hcp
  have i0:=held_cst hc hP h0 (on_ch (T:=.node p a b e) hon 0) c0
  have i1:=held_cst hc hP h1 (on_ch (T:=.node p a b e) hon 1) c1
  have i2:=held_cst hc hP h2 (on_ch (T:=.node p a b e) hon 2) c2
  have hk:∀k,cst c d (fun j=>Tr.z (d+1) (.node p a b e) (k * wd d+j))=cst c d (Tr.z d ((Tr.node p a b e).ch k)):=fun k=>cst_congr c d fun j hj=>z_ch _ hj
  have hlz:lz (Tr.z (d+1) (.node p a b e)) (wd (d+1))=false:=by
   rw[Bool.eq_false_iff]
   intro h
   cases (lz_no (T:=.node p a b e) (d:=d+1) ⟨h0,h1,h2,hn,hB⟩).1 h
  rw[cst,hlz,hk,hk,hk]
  show(Vp.sx (Vp.ps ((p,_) :: (a.held ++ b.held ++ e.held)))).length=(if false=true then 0 else 2)+(cst c d (Tr.z d a)+cst c d (Tr.z d b)+cst c d (Tr.z d e))
  rw[if_neg (by decide),←i0,←i1,←i2]
  show(Sp.secs p ++ Vp.sx (Vp.ps (a.held ++ b.held ++ e.held))).length=_
  rw[Vp.ps_append,Vp.sx_append,Vp.ps_append,Vp.sx_append,List.length_append,List.length_append,List.length_append,secs_two hA hB]
end St
namespace St
open Go.RowKit Go.Shelf Dk Gm Eqb Rm Di Vl Qv
open Vm (HasVol vM)
def q20:Qt:=⟨20,by decide,by decide⟩
def d5(j:Nat):Int:=if j=0 then 5 else 0
theorem d5_byt:Di.byt d5:=fun i _=>by unfold d5; split <;> omega
theorem d5_nz:Wd.zeroB d5 128=false:=Wd.zeroB_false (i:=0) (by omega) (by decide)
theorem bl_inj{D E:Nat→Int}(h:bl D=bl E):∀i,i < 128→D i=E i:=fun i hi=>by
 have h1:=bl_get D hi
 rw[h,bl_get E hi] at h1
 injection Option.some.inj h1 with _ e
 exact e.symm
theorem zero_bl{D E:Nat→Int}(h:bl D=bl E):Wd.zeroB D 128=Wd.zeroB E 128:=Wd.zeroB_congr (bl_inj h)
theorem zN_all(a:Nat):∀k:Nat,Sp.zN (fun _=>0) a k=k
 | 0=>rfl
 | k+1=>by
  rw[Sp.zN,zN_all a k]
  show(k:Int)+(if ((0:Int) == 0)=true then 1 else 0)=((k+1:Nat):Int)
  rw[if_pos (by decide)]
  omega
theorem rm_new(q:Qt){n:Nat}(h:n≤zq q):Rm2 q (fun _=>0) n:=⟨by rw[zN_all]; omega,by rw[zN_all]; omega⟩
theorem hs_new(q:Qt){c:Nat}(hc:c=1∨c=2)(P:(Nat→Int)→Prop){s0:Int}(hs:szB s0=true):Hs q c P s0 .no [] (vX1 q) (fun _=>0):=⟨py_start,ok_no _,trivial,trivial,hs,hc⟩
theorem dp4:dpN 4=2:=by
 rw[dpN_gt (by omega),show(4 - 1) / 3+1=2 from rfl,dpN_gt (by omega),show(2 - 1) / 3+1=1 from rfl,dpN_le (by omega)]
theorem lv400:lvI 400=4:=by decide
theorem dp400:dpN (lvI 400).toNat=2:=by
 rw[lv400]
 exact dp4
theorem zb_z:Wd.zeroB zb 128=true:=Wd.zeroB_true.2 fun _ _=>rfl
theorem cst_5{F:Nat→Bool}(h:∀j,j < 9→F j=!decide (j=3)):cst 1 2 F=5:=by
 rw[cst_congr 1 2 (F':=fun j=>!decide (j=3)) h]
 decide
theorem alive_d:∃(f1:Nat→Int) (X2:Dst) (f2:Nat→Int) (p2:Pt.Pn),
  (∀(w:World) (V:Pl) (sb:Nat),HV w V q20 (vX1 q20) (fun _=>0)→Rm.Kp w→w.heap[sb]?=some (.cells (sV Pt.hole 0 1).toArray 26 (0,0))→Off w V sb→sb≠0→
   Calls Tryz.prog 18 #[.pointer (some ⟨V.b,V.o,none⟩),.pointer (some ⟨sb,0,none⟩),.int .i64 400] w fun e w'=>e=.returned (.int .i64 0)∧Sw w V sb q20 (vX1 q20) f1 (sV Pt.hole 400 1) w')∧
  (∀(w:World) (V:Pl) (sb:Nat),HV w V q20 (vX1 q20) f1→Rm.Kp w→w.heap[sb]?=some (.cells (sV Pt.hole 400 1).toArray 26 (0,0))→Off w V sb→sb≠0→
   Calls Tryz.prog 17 #[.pointer (some ⟨V.b,V.o,none⟩),.pointer (some ⟨sb,0,none⟩),.int .i64 3,.agg (bl d5).toArray] w fun e w'=>e=.returned (.int .i64 0)∧Sw w V sb q20 X2 f2 (sV p2 400 1) w')∧
  (∀(w:World) (V:Pl),Rm.Kp w→HV w V q20 X2 f2→
   Calls Tryz.prog 15 #[.pointer (some ⟨V.b,V.o,none⟩),.agg (sV p2 400 1).toArray,.int .i64 3] w fun e w'=>e=.returned (.tuple #[.agg (bl d5).toArray,.int .i64 0])∧TV w V q20 X2 f2 w')∧
  Sp.usedN 28 (bq q20) (zq q20) (kq q20) f2=5:=by
 have hP5:Apt (fun b=>bl b=bl d5):=fun b b' h h' _=>h.trans h'.symm
 have hm0:(vX1 q20).m=0:=(fresh_up (q:=q20)).2.2.1
 obtain⟨f1,h1,hr1,k1⟩:=resize_hole (n:=400) (hs_new q20 (.inl rfl) (fun b=>bl b=bl d5) (s0:=0) (by decide)) (by decide) (by decide)
 obtain⟨X2,f2,T,E,hm2,h2,hne,he,k2⟩:=lay_full hP5 (D:=d5) d5_byt rfl h1 (i:=3) (by rw[lv400]; decide) (by rw[hm0]; omega)
 have hE:E=0:=Classical.byContradiction fun hE=>(hne hE).2.1 (hr1 _ (rm_new q20 (by decide)))
 subst hE
 obtain⟨hat,_⟩:=he rfl
 rw[dp400] at hat
 have hok:=h2.ok
 rw[dp400] at hok
 have hw2:wd 2=9:=rfl
 refine⟨f1,X2,f2,T.root,k1,k2,fun w V hk hv=>?_,?_⟩
 ·have:=leaf_t hk hv h2.py (by omega) (T:=T) (s:=400) (c:=1) (by decide) (by decide) h2.ok h2.on (i:=3) (by rw[lv400]; decide)
  rw[dp400,hat 3 (by omega),if_pos rfl] at this
  exact this
 ·have hu:=h2.py.used
  rw[List.append_nil,held_cst (.inl rfl) h2.py hok h2.on h2.cp] at hu
  rw[hu,cst_5 fun j hj=>?_]
  ·rfl
  ·unfold Tr.z
   have h3:=hat j (by omega)
   by_cases e:j=3
   ·rw[if_pos e] at h3
    rw[zero_bl h3,e,d5_nz]
    rfl
   ·rw[if_neg e] at h3
    rw[zero_bl h3,at_no,zb_z,decide_eq_false e]
    rfl
end St
namespace St
open Go.RowKit Go.Shelf Dk Gm Eqb Rm Di
open Vm (HasVol vM)
open Vl (Off)
open Qv (Qt nq zq bq kq vX1 HV TV)
attribute [local go_sem] Pt.zvP Pt.zv3 zv29
attribute [local go_sem] Pt.zc3 zc29
theorem built_5:Tryz.prog.built 47 [(0,.int .u8 5)]=some (bl d5).toArray:=by kernel_rfl
theorem built_s1:Tryz.prog.built 26 [(0,.agg (Pt.pV Pt.hole).toArray),(2,.int .i64 1)]=some (sV Pt.hole 0 1).toArray:=by kernel_rfl
theorem size_sV(p:Pt.Pn)(s c:Int):(sV p s c).toArray.size=36:=by rw[List.size_toArray,sV_length]
theorem cell0_bl5{w:World}{b:Nat}{D:Nat→Int}{t:TypeId}(h:w.heap[b]?=some (.cells (bl D).toArray t (0,0))):w.cell? ⟨b,0,none⟩=some (.int .u8 (D 0)):=by
 rw[cell_of_row w b 0 _ _ _ h]
 simp[bl]
theorem Sw.below{w w1 w2:World}{V:Pl}{sb:Nat}{q:Qt}{X:Dst}{f:Nat→Int}{st:List Value}(h:Sw w1 V sb q X f st w2)(hb:Below w.heap.size w w1)(hV:w.heap.size≤V.b)(hs:w.heap.size≤sb):Below w.heap.size w w2:=
 ⟨h.os.trans hb.os,h.tp.trans hb.tape,h.ou.trans hb.output,Nat.le_trans hb.size h.sz,fun k hk=>(h.blk k (by have:=hb.size; omega) (by omega) (by omega)).trans (hb.block k hk)⟩
theorem alive10_any(w:World)(hk:Rm.Kp w):Calls Tryz.prog 5 #[] w fun e w'=>e=.returned (.bool true)∧Below w.heap.size w w':=by
 obtain⟨f1,X2,f2,p2,a1,a2,a3,a4⟩:=alive_d
 have HNW:=Lib.hid (Qv.new_v q20 w hk)
 have HRS:=Lib.hid a1
 have HLY:=Lib.hid a2
 have HLF:=Lib.hid a3
 have HUS:=Lib.hid a4
 have HKP:=Lib.hid hk
 clear a1 a2 a3 a4 hk
 go_enter Tryz.func5,Tryz.ntmps5
 go_wp2_with fail
 refine HNW.out.mono ?_
 rintro _ w1 ⟨sa,sc,ca,cc,ao,kc,rfl,hn1,hb1⟩
 have h0:w.heap.size≠0:=by have:=HKP.out.2; omega
 have hV2:HV (w1.alloc (.cells (Qv.nvC q20 sa sc ca cc ao kc) 43)) (Pl.own w1.heap.size 43) q20 (vX1 q20) (fun _=>0):=hn1.has (by have:=hb1.size; omega) rfl
 have hb2:Below w1.heap.size w1 (w1.alloc (.cells (Qv.nvC q20 sa sc ca cc ao kc) 43)):=(Below.refl _ _).alloc (Nat.le_refl _) _
 have HV2:=Lib.hid hV2
 have HB2:=Lib.hid (hb1.trans (hb2.mono hb1.size))
 have HS1:=Lib.hid hb1.size
 clear HNW hn1 hV2 hb1 hb2
 dsimp only
 obtain⟨w2,hW2⟩:∃w2,w2=w1.alloc (.cells (Qv.nvC q20 sa sc ca cc ao kc) 43):=⟨_,rfl⟩
 rw[←hW2] at HV2 HB2
 have hs2:w2.heap.size=w1.heap.size+1:=by rw[hW2]; simp
 go_wp2_with (first
  | (refine @wpList_store_row _ _ _ _ _ _ _ rfl 43 (.tmp 1) (.tmp 10) rfl w1.heap.size (Qv.nvC q20 sa sc ca cc ao kc) rfl rfl 43 _ (heap_alloc_new w1 _) (Vl.vol_size _ _ _ _ _ _ _ _ _ _) rfl (Vl.vol_one _ _ _ _ _ _ _ _ _ _ _ _ _ _ _ _ _ _) ?_; rw[World.setRow_alloc_new,←hW2]; simp only[Act.put]))
 try rw[←hW2]
 refine(Pt.refhole_any w2).mono ?_
 rintro _ w3 ⟨rfl,hb3⟩
 have hv3:=HV2.out.below hb3
 have hB3:=HB2.out.trans (hb3.mono HB2.out.size)
 have hs3:=hb3.size
 generalize hB:w1.heap.size=B at *
 clear hW2
 dsimp only
 obtain⟨w4,hW4⟩:∃w4,w4=w3.alloc (.cells (sV Pt.hole 0 1).toArray 26):=⟨_,rfl⟩
 have hb4:Below w3.heap.size w3 w4:=by rw[hW4]; exact(Below.refl _ _).alloc (Nat.le_refl _) _
 have hr4:w4.heap[w3.heap.size]?=some (.cells (sV Pt.hole 0 1).toArray 26 (0,0)):=by rw[hW4]; exact heap_alloc_new _ _
 have hv4:=hv3.below hb4
 have hB4:=hB3.trans (hb4.mono hB3.size)
 have ho4:Off w4 (Pl.own B 43) w3.heap.size:=(Vl.Off.new hv3 (Qv.kq0 q20) (Nat.le_refl _)).below hv3.lt hb4
 have HR4:=Lib.hid (HRS.out w4 _ _ hv4 (HKP.out.below hB4) hr4 ho4 (by omega))
 have HB4:=Lib.hid hB4
 clear HV2 HB2 hb3 hv3 hB3 hb4 hr4 hv4 hB4 ho4 HRS
 go_wp2_with (first
  | (refine wpList_build2 rfl 26 0 2 (.tmp 12) (.const (.int .i64 1)) rfl (some 13) rfl _ _ rfl rfl (sV Pt.hole 0 1).toArray built_s1 ?_; simp only[Act.put,aA])
  | (refine wNw rfl 26 (.tmp 3) (.tmp 13) rfl _ (sV Pt.hole 0 1).toArray rfl rfl (by simp) _ (by rw[size_sV]; rfl) (sizeS' _ _ _) (sV_all _ _ _) ?_; rw[←hW4]; simp only[Act.put]))
 try rw[←hW4]
 refine HR4.out.mono ?_
 rintro _ w5 ⟨rfl,hT5⟩
 have HB5:=Lib.hid (hT5.below HB4.out (by show w.heap.size≤B; have:=HS1.out; omega) (by have:=HS1.out; omega))
 have HL5:=Lib.hid (HLY.out w5 _ _ hT5.v hT5.kp hT5.s hT5.fs (by omega))
 have hs5:=hT5.sz
 clear hT5 HR4 HB4 HLY
 dsimp only
 go_wp2_with (first
  | (refine wpList_buildTo rfl 47 #[(0,.const (.int .u8 5))] rfl _ rfl (bl d5).toArray built_5 ?_; simp only[Act.put,aA]))
 refine HL5.out.mono ?_
 rintro _ w6 ⟨rfl,hT6⟩
 have HB6:=Lib.hid (hT6.below HB5.out (by show w.heap.size≤B; have:=HS1.out; omega) (by have:=HS1.out; omega))
 have HL6:=Lib.hid (HLF.out w6 _ hT6.kp hT6.v)
 have hr6:=row_sV hT6.s
 have hs6:=hT6.sz
 have hsz4:w4.heap.size=w3.heap.size+1:=by rw[hW4]; simp
 have HV6:=Lib.hid hT6.v.lt
 clear hT6 HL5 HB5 HLF hW4
 dsimp only
 go_wp2_with (first
  | (refine wpList_load_mid rfl 26 (.tmp 3) rfl w3.heap.size 0 rfl (sV p2 400 1) _ (by exact hr6) undS rfl (sizeS _ _ _) ?_; simp only[Act.put,aA]))
 refine HL6.out.mono ?_
 rintro _ w7 ⟨rfl,hT7⟩
 have HB7:=Lib.hid (Vl.below_row HB6.out hT7.g (by show w.heap.size≤B; have:=HS1.out; omega))
 have hs7:=hT7.g.size
 have hBl:B < w7.heap.size:=hT7.v.lt
 obtain⟨w8,hW8⟩:∃w8,w8=w7.alloc (.cells (bl d5).toArray 47):=⟨_,rfl⟩
 have hb8:Below w7.heap.size w7 w8:=by rw[hW8]; exact(Below.refl _ _).alloc (Nat.le_refl _) _
 have hq8:w8.cell? ⟨w7.heap.size,0,none⟩=some (.int .u8 5):=by rw[hW8]; exact cell0_bl5 (heap_alloc_new w7 _)
 obtain⟨ta,tc,da,dc,pa,cp,bo,kd,hx⟩:=Vl.HasVol.open' (hT7.v.below hb8)
 have hB8:=Lib.hid (HB7.out.trans (hb8.mono HB7.out.size))
 have HU8:=Lib.hid (Sp.refUsed_any 28 (bq q20) (zq q20) bo (kq q20) kd f2 w8 hx.st)
 rw[HUS.out] at HU8
 have c6:w8.cell? ⟨B,6,none⟩=some _:=hx.c6
 have c7:w8.cell? ⟨B,7,none⟩=some _:=hx.c7
 have c8:w8.cell? ⟨B,8,none⟩=some _:=hx.c8
 have c9:w8.cell? ⟨B,9,none⟩=some _:=hx.c9
 have b6:w7.cell? ⟨B,6,none⟩=_:=(hb8.cell (p:=⟨B,6,none⟩) (by show B < w7.heap.size; omega)).symm.trans c6
 have b7:w7.cell? ⟨B,7,none⟩=_:=(hb8.cell (p:=⟨B,7,none⟩) (by show B < w7.heap.size; omega)).symm.trans c7
 have b8:w7.cell? ⟨B,8,none⟩=_:=(hb8.cell (p:=⟨B,8,none⟩) (by show B < w7.heap.size; omega)).symm.trans c8
 have b9:w7.cell? ⟨B,9,none⟩=_:=(hb8.cell (p:=⟨B,9,none⟩) (by show B < w7.heap.size; omega)).symm.trans c9
 have e5:(bl d5)[0]?=some (.int .u8 5):=bl_get d5 (by omega)
 rw[hW8] at c6 c7 c8 c9 hq8
 have HDP:=Lib.hid (fun w'=>depth_any 4 (by omega) w')
 rw[show((4:Int)).toNat=4 from rfl,dp4] at HDP
 clear hT7 hx hb8 HL6 HB6 HB7 HUS HV6 HKP HS1 hr6
 dsimp only
 go_wp2_with (refine wpList_store_row rfl 47 (.tmp 6) (.tmp 20) rfl w7.heap.size (bl d5).toArray rfl rfl 47 _ (heap_alloc_new w7 _) (size_bl' _) (by simp[bL]) (bl_all _) ?_; rw[World.setRow_alloc_new,←hW8]; simp only[Act.put])
 try rw[←hW8]
 refine HU8.out.mono ?_
 rintro _ w9 ⟨rfl,hb9⟩
 have HB9:=Lib.hid (hB8.out.trans (hb9.mono hB8.out.size))
 clear c6 c7 c8 c9 b6 b7 b8 b9 e5 hq8 hb9 HU8 hB8 hW8
 dsimp only
 go_wp2_with fail
 refine(HDP.out w9).mono ?_
 rintro _ w10 ⟨rfl,rfl⟩
 dsimp only
 go_wp2_with fail
 go_ret
 exact⟨rfl,HB9.out⟩
end St
namespace St
open Go.RowKit Dk Gm Eqb Rm
theorem refleaves_any(n:Int)(h:-9223372036854775808≤n∧n≤9223372036854775807)(w:World):Calls Tryz.prog 9 #[.int .i64 n] w fun e w'=>e=.returned (.int .i64 (lvI n))∧w=w':=by
 by_cases h1:n < 1
 ·have hl:lvI n=0:=if_pos h1
  rw[hl]
  go_enter Tryz.func9,Tryz.ntmps9
  go_wp2_with fail
  go_ret
  exact⟨rfl,rfl⟩
 ·have hl:lvI n=(n - 1) / 128+1:=if_neg h1
  rw[hl]
  go_enter Tryz.func9,Tryz.ntmps9
  go_wp2_with fail
  go_ret
  exact⟨rfl,rfl⟩
def wn(j:Nat):Int:=if j≤39 then (wd j:Int) else -6289078614652622815
theorem wd_39:wd 39=4052555153018976267:=by decide
theorem refdepth_any(n:Int)(h:-9223372036854775808≤n∧n≤9223372036854775807)(w:World):Calls Tryz.prog 11 #[.int .i64 n] w fun e w'=>e=.returned (.int .i64 (dpN n.toNat:Int))∧w=w':=by
 go_enter Tryz.func11,Tryz.ntmps11
 go_wp2_with fail
 go_loopw [3,4] (fun k x wr=>∃j:Nat,k=.int .i64 (j:Int)∧x=.int .i64 (wn j)∧Hid (j≤dpN n.toNat∧w=wr)) (fun k _ _=>41 - (intOf k).toNat)
 case atStart=>exact⟨0,rfl,rfl,Lib.hid ⟨by omega,rfl⟩⟩
 case round=>
  obtain⟨j,rfl,rfl,hR⟩:=hrel
  have h40:dpN n.toNat≤40:=dpN_40 (by omega)
  have hj0:=hR.out.1
  by_cases hlt:j < dpN n.toNat
  ·have hj:j≤39:=by omega
   have hwj:wd j < n.toNat:=Classical.byContradiction fun hc=>by
    have:=dpN_wd (k:=j) (n:=n.toNat) (by omega)
    omega
   have hx:wn j=(wd j:Int):=if_pos hj
   have hx2:wn j < n:=by rw[hx]; omega
   have hx0:0≤wn j:=by rw[hx]; omega
   have HH:=Lib.hid hlt
   by_cases h39:j=39
   ·subst h39
    have hv:wn 39=4052555153018976267:=by rw[hx,wd_39]; rfl
    have hv2:wn 40 = -6289078614652622815:=rfl
    have HV2:=Lib.hid hv2
    rw[hv] at hx2 ⊢
    clear hx hv hv2 hwj hlt h40 hj0 hx0 hj
    go_wp2_with fail
    go_roundw
    case rel=>exact⟨40,by go_num,by rw[HV2.out,show wrap64 12157665459056928801 = -6289078614652622815 by simp[wrap64]],Lib.hid ⟨by have:=HH.out; omega,hR.out.2⟩⟩
    case measure=>simp[intOf]
   ·have hw:wn (j+1)=wn j * 3:=by
     rw[hx]
     unfold wn
     rw[if_pos (by omega),wd]
     omega
    have hb:wn j * 3≤9223372036854775807:=by
     have h1:=wd_mono (d:=j+1) (e:=39) (by omega)
     rw[wd_39,wd] at h1
     rw[hx]
     omega
    have HW:=Lib.hid hw
    clear hw hx hwj hlt h40 hj0
    have hj38:(j:Int)≤38:=by omega
    generalize wn j=x at *
    go_wp2_with fail
    go_roundw
    case rel=>exact⟨j+1,by go_num,by rw[HW.out],Lib.hid ⟨by have:=HH.out; omega,hR.out.2⟩⟩
    case measure=>simp[intOf]; omega
  ·have hjj:j=dpN n.toNat:=by omega
   have hle:n.toNat≤wd j:=by rw[hjj]; exact wd_dpN _
   have HJ:=Lib.hid hjj
   by_cases h39:j≤39
   ·have hx:wn j=(wd j:Int):=if_pos h39
    have hnl:¬ wn j < n:=by
     rw[hx]
     have:n≤(n.toNat:Int):=by omega
     omega
    clear hx hjj hle hlt h40 hj0
    generalize wn j=x at *
    go_wp2_with fail
    go_ret
    exact⟨by rw[←HJ.out]; rfl,hR.out.2⟩
   ·have hj4:j=40:=by omega
    subst hj4
    have hv2:wn 40 = -6289078614652622815:=rfl
    rw[hv2]
    have hn:-6289078614652622815 < n:=Classical.byContradiction fun hc=>by
     rw[show n.toNat=0 by omega,dpN_le (by omega)] at hjj
     cases hjj
    clear hv2 hjj hle hlt h40 hj0 h39
    go_wp2_with fail
    go_ret
    exact⟨by rw[←HJ.out]; rfl,hR.out.2⟩
def cpB(c:Int):Bool:=decide (c=1) || decide (c=2)
theorem alB_cp(c:Int):alB c=cpB c:=by
 unfold alB cpB
 by_cases h1:c=1
 ·subst h1; rfl
 ·by_cases h2:c=2
  ·subst h2; rfl
  ·rw[decide_eq_false h1,decide_eq_false h2]
   by_cases h3:1≤c
   ·rw[decide_eq_true h3,decide_eq_false (by omega)]
    rfl
   ·rw[decide_eq_false h3]
    rfl
theorem refright10_any(p:Pt.Pn)(s c:Int)(w:World):Calls Tryz.prog 7 #[.agg (sV p s c).toArray] w fun e w'=>e=.returned (.bool (rsB p s c))∧Below w.heap.size w w':=by
 obtain⟨W,hW,hb0,hx0,hs0⟩:=box_s w p s c
 have hr0:=hx0.pt
 have HI:=Lib.hid (fun W=>Pt.refright_any p W)
 have HV:Hid (rsB p s c=(Pt.rightB p && (szB s && alB c))):=Lib.hid rfl
 rw[HV.out]
 generalize Pt.rightB p=r1 at *
 go_enter Tryz.func7,Tryz.ntmps7
 go_wp2_with (first | (rw[←hW]) | (refine wpList_load_mid rfl 24 (.tmp 3) rfl w.heap.size 0 rfl (Pt.pV p) _ (by exact hr0) Pt.undP rfl (Pt.sizeP p) ?_; simp only[Act.put,aA]))
 refine(HI.out W).mono ?_
 rintro _ w1 ⟨rfl,hb1⟩
 have hB:=hb0.trans (hb1.mono hb0.size)
 have hx1:=hx0.keep (hb1.block w.heap.size (by omega))
 have c1:=hx1.size
 have c2:=hx1.copies
 clear hx0 hb1 hb0 hr0 hW HI HV hx1
 dsimp only
 cases r1 with
 | false=>
  go_wp2_with fail
  go_ret
  exact⟨rfl,hB⟩
 | true=>
  by_cases h1:0≤s
  ·by_cases h2:s≤8192
   ·have hs:szB s=true:=by unfold szB; rw[decide_eq_true h1,decide_eq_true h2]; rfl
    by_cases h3:c=1
    ·subst h3
     have hv:Hid ((szB s && alB 1)=true):=Lib.hid (by rw[hs]; rfl)
     clear hs
     go_wp2_with fail
     go_ret
     exact⟨by rw[hv.out]; rfl,hB⟩
    ·by_cases h4:c=2
     ·subst h4
      have hv:Hid ((szB s && alB 2)=true):=Lib.hid (by rw[hs]; rfl)
      clear hs
      go_wp2_with fail
      go_ret
      exact⟨by rw[hv.out]; rfl,hB⟩
     ·have hv:Hid ((szB s && alB c)=false):=Lib.hid (by
       rw[alB_cp]
       unfold cpB
       rw[decide_eq_false h3,decide_eq_false h4]
       cases szB s <;> rfl)
      clear hs
      have e3:(c == 1)=false:=beq_eq_false_iff_ne.2 h3
      have e4:(c == 2)=false:=beq_eq_false_iff_ne.2 h4
      go_wp2_with fail
      go_ret
      exact⟨by rw[hv.out]; rfl,hB⟩
   ·have hv:Hid ((szB s && alB c)=false):=Lib.hid (by unfold szB; rw[decide_eq_false h2]; cases decide (0≤s) <;> rfl)
    go_wp2_with fail
    go_ret
    exact⟨by rw[hv.out]; rfl,hB⟩
  ·have hv:Hid ((szB s && alB c)=false):=Lib.hid (by unfold szB; rw[decide_eq_false h1]; rfl)
   go_wp2_with fail
   go_ret
   exact⟨by rw[hv.out]; rfl,hB⟩
end St
namespace St
open Go.RowKit Go.Shelf Dk Gm Eqb Rm
attribute [local go_sem] Pt.zvP Pt.zv3 zv29
attribute [local go_sem] Pt.zc3 zc29
attribute [local irreducible] wpQuiet
theorem stemasks_any(p:Pt.Pn)(s c size leaves:Int)(w:World)(hkp:Rm.Kp w)(hsz:-9223372036854775808≤size∧size≤9223372036854775807)(hlv:-9223372036854775808≤leaves∧leaves≤9223372036854775807) :
  Calls Tryz.prog 3 #[.agg (sV p s c).toArray,.int .i64 size,.int .i64 leaves] w fun e w'=>e=.returned (.bool true)∧Below w.heap.size w w':=by
 obtain⟨W,hW,hb0,hx0,hs0⟩:=box_s w p s c
 have HX:=Lib.hid (fun w' (hb:Below W.heap.size W w')=>hx0.keep (hb.block w.heap.size (by omega)))
 have HAL:=Lib.hid (fun w' (hb:Below W.heap.size W w')=>alive10_any w' ((hkp.below hb0).below hb))
 have QR:=Lib.hid (fun w'=>right_any p s c w')
 have QS:=Lib.hid (fun w'=>refright10_any p s c w')
 have QL:=Lib.hid (fun w'=>leaves_any size hsz.2 w')
 have QM:=Lib.hid (fun w'=>refleaves_any size hsz w')
 have QD:=Lib.hid (fun w'=>depth_any leaves hlv.2 w')
 have QE:=Lib.hid (fun w'=>refdepth_any leaves hlv w')
 have HB0:=Lib.hid hb0
 clear hx0 hkp hsz hlv hb0 hs0
 generalize rsB p s c=R at QR QS
 generalize lvI size=L at QL QM
 generalize ((dpN leaves.toNat:Nat):Int)=D at QD QE
 go_enter Tryz.func3,Tryz.ntmps3
 go_upto_region 1 with fail
 rw[←hW]
 clear hW
 refine wp_region_quiet (C:=fun w'=>Below W.heap.size W w') (by kernel_rfl) (by kernel_rfl) ⟨rfl,rfl,rfl,Nat.le_refl _,fun _ _=>rfl⟩ ?_
 refine q_call 5 _ (.bool true) rfl (fun w'=>by go_simp) (fun w' hw'=>(HAL.out w' hw').mono fun e w'' ⟨he,hb⟩=>⟨he,hw'.trans (hb.mono hw'.size)⟩) ?_
 simp only[Act.put,aA]
 refine q_move _ rfl rfl ?_
 simp only[Act.put,aA]
 refine q_loadB 26 (.tmp 3) rfl (by kernel_rfl) w.heap.size 0 rfl (sV p s c) _ (fun w' hw'=>(HX.out w' hw').all) undS rfl (sizeS p s c) ?_
 simp only[Act.put,aA]
 refine q_call 6 _ (.bool R) (by kernel_rfl) (fun w'=>by go_simp) (fun w' hw'=>(QR.out w').mono fun e w'' ⟨he,hb⟩=>⟨he,hw'.trans (hb.mono hw'.size)⟩) ?_
 simp only[Act.put,aA]
 refine q_loadB 26 (.tmp 3) rfl (by kernel_rfl) w.heap.size 0 rfl (sV p s c) _ (fun w' hw'=>(HX.out w' hw').all) undS rfl (sizeS p s c) ?_
 simp only[Act.put,aA]
 refine q_call 7 _ (.bool R) (by kernel_rfl) (fun w'=>by go_simp) (fun w' hw'=>(QS.out w').mono fun e w'' ⟨he,hb⟩=>⟨he,hw'.trans (hb.mono hw'.size)⟩) ?_
 simp only[Act.put,aA]
 refine q_val (.bool true) (by kernel_rfl) (fun w' hw'=>by go_simp) ?_
 simp only[Act.put,aA]
 refine q_val (.bool true) rfl (fun w' hw'=>by go_simp) ?_
 simp only[Act.put,aA]
 refine q_move _ rfl rfl ?_
 simp only[Act.put,aA]
 refine q_val (.int .i64 size) (by kernel_rfl) (fun w' hw'=>by go_simp) ?_
 simp only[Act.put,aA]
 refine q_call 8 _ (.int .i64 L) (by kernel_rfl) (fun w'=>by go_simp) (fun w' hw'=>(QL.out w').mono fun e w'' ⟨he,hb⟩=>⟨he,hb ▸ hw'⟩) ?_
 simp only[Act.put,aA]
 refine q_val (.int .i64 size) (by kernel_rfl) (fun w' hw'=>by go_simp) ?_
 simp only[Act.put,aA]
 refine q_call 9 _ (.int .i64 L) (by kernel_rfl) (fun w'=>by go_simp) (fun w' hw'=>(QM.out w').mono fun e w'' ⟨he,hb⟩=>⟨he,hb ▸ hw'⟩) ?_
 simp only[Act.put,aA]
 refine q_val (.bool true) (by kernel_rfl) (fun w' hw'=>by go_simp) ?_
 simp only[Act.put,aA]
 refine q_val (.bool true) rfl (fun w' hw'=>by go_simp) ?_
 simp only[Act.put,aA]
 refine q_move _ rfl rfl ?_
 simp only[Act.put,aA]
 refine q_val (.int .i64 leaves) (by kernel_rfl) (fun w' hw'=>by go_simp) ?_
 simp only[Act.put,aA]
 refine q_call 10 _ (.int .i64 D) (by kernel_rfl) (fun w'=>by go_simp) (fun w' hw'=>(QD.out w').mono fun e w'' ⟨he,hb⟩=>⟨he,hb ▸ hw'⟩) ?_
 simp only[Act.put,aA]
 refine q_val (.int .i64 leaves) (by kernel_rfl) (fun w' hw'=>by go_simp) ?_
 simp only[Act.put,aA]
 refine q_call 11 _ (.int .i64 D) (by kernel_rfl) (fun w'=>by go_simp) (fun w' hw'=>(QE.out w').mono fun e w'' ⟨he,hb⟩=>⟨he,hb ▸ hw'⟩) ?_
 simp only[Act.put,aA]
 refine q_val (.bool true) (by kernel_rfl) (fun w' hw'=>by go_simp) ?_
 simp only[Act.put,aA]
 refine q_val (.bool true) rfl (fun w' hw'=>by go_simp) ?_
 simp only[Act.put,aA]
 refine q_val (.bool true) rfl (fun w' hw'=>by go_simp) ?_
 simp only[Act.put,aA]
 refine wpQuiet_nil ?_
 intro w4 hw4
 go_wp2_with fail
 go_ret
 exact⟨rfl,HB0.out.trans (hw4.mono HB0.out.size)⟩
end St
end Go.Proofs.YteaocagepfgfnaaGreatDoor
