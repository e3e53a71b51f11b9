import Derived.Test.YteaocagepfgfnaaGreatDoorPStX
import Derived.Test.YteaocagepfgfnaaGreatDoorPStDc
import Derived.Test.YteaocagepfgfnaaGreatDoorPAl
set_option maxRecDepth 100000
set_option maxHeartbeats 8000000
namespace Go.Proofs.YteaocagepfgfnaaGreatDoor
namespace St
open Go.RowKit Dk Gm Eqb Rm Di Vl Qv Sp
open Vm (HasVol vM)
attribute [local go_sem] Pt.zvP Pt.zv3 zv29
attribute [local go_sem] Pt.zc3 zc29
attribute [local irreducible] wpQuiet
variable {q:Qt}{X X':Dst}{f f':Nat→Int}
def LaInv(x0 x1 x7 x11 x12 x13 x14 x15 x16:Value)(w W:World)(V:Pl)(wb:Nat)(gv:Value)(q:Qt)(X:Dst)(f:Nat→Int)(X':Dst)(f':Nat→Int)(st:List Value)(G G':List Pt.Pn)(bi bwd bw bd bb b8 b9:Nat)(p:Pt.Pn)(d i v:Nat)(r:Int)(D:Nat→Int)(p2:Pt.Pn)(E1:Int)(L:Nat→Bool)(a':Act)(w':World):Prop:=
 ∃u0 u1 u2 u3 u4 u5 u6 u7 u8 u9 u10 u12,a'={ tmps:=#[x0,x1,.pointer (some ⟨bi,0,none⟩),.pointer (some ⟨bwd,0,none⟩),.pointer (some ⟨bw,0,none⟩),.pointer (some ⟨bd,0,none⟩),.pointer (some ⟨bb,0,none⟩),x7,.pointer (some ⟨b8,0,none⟩),.pointer (some ⟨b9,0,none⟩),u12,x11,x12,x13,x14,x15,x16,u0,u1,u2,u3,u4,u5,u6,u7,u8,u9,u10],defers:=[] }∧Fa L [(0,u0,.pointer (some ⟨wb,0,none⟩)),(1,u1,.agg (Pt.pV p).toArray),(2,u2,.int .i64 ((d:Int)+1)),(3,u3,.int .i64 (d:Int)),(4,u4,.int .i64 (i:Int)),(5,u5,.int .i64 (v:Int)),(6,u6,.int .i64 r),(7,u7,.agg (bl D).toArray),(8,u8,.tuple #[.agg (Pt.pV p2).toArray,.int .i64 E1]),(9,u9,.agg (Pt.pV p2).toArray),(10,u10,.int .i64 E1),(12,u12,.int .i64 E1)]∧Od L [(8,0),(8,1),(8,3),(8,6),(8,7),(3,2),(6,4),(6,5)]∧Pc w W V wb gv q X f X' f' st G G' b9 24 (Pt.pV Pt.pz) (Pt.pV p2) (L 8) (L 11) w'
theorem d_w{d:Nat}(hd:d≤10):IntKind.i64.wrap (d:Int)=(d:Int):=by
 have h:(0:Int)≤(d:Int)∧(d:Int)≤10:=by omega
 generalize (d:Int)=z at h ⊢
 simp[IntKind.wrap,IntKind.bits,IntKind.signed] <;> omega
theorem lay_ar{d li:Nat}(_hd:d≤10)(hi:li < wd (d+1)):0 < wd d∧wd d≠0∧(wd d:Int)≠0∧wrap64 ((li:Int) / (wd d:Int))=((li / wd d:Nat):Int):=by
 have hwp:=wd_pos d
 have hq:li / wd d < 3:=Nat.div_lt_of_lt_mul (by rw[Nat.mul_comm]; exact hi)
 refine⟨hwp,by omega,by omega,?_⟩
 rw[←Int.natCast_ediv]
 generalize li / wd d=a at hq ⊢
 exact Gm.w64_in _ (by omega)
structure LayCap(w:World)(V:Pl)(wb:Nat)(gv:Value)(bi bwd bw bd bb d i:Nat)(D:Nat→Int):Prop where
 ki:Lk V wb gv w bi
 ri:w.heap[bi]?=some (.cells #[.int .i64 (i:Int)] 3 (0,0))
 kv:Lk V wb gv w bwd
 rv:w.heap[bwd]?=some (.cells #[.int .i64 (wd d:Int)] 3 (0,0))
 kw:Lk V wb gv w bw
 rw:w.heap[bw]?=some (.cells #[.pointer (some ⟨wb,0,none⟩)] 89 (0,0))
 kd:Lk V wb gv w bd
 rd:w.heap[bd]?=some (.cells #[.int .i64 ((d:Int)+1)] 3 (0,0))
 kb:Lk V wb gv w bb
 rb:w.heap[bb]?=some (.cells (bl D).toArray 47 (0,0))
theorem lay1_skip{w:World}{V:Pl}{wb:Nat}{gv:Value}{st:List Value}{G:List Pt.Pn}(hw:Wt w V wb gv q X f st gv G w){bi bwd bw bd bb d li:Nat}{D:Nat→Int}(hc:LayCap w V wb gv bi bwd bw bd bb d li D)(hd:d≤10)(hi:li < wd (d+1))(p:Pt.Pn)(k:Nat)(_hk3:k < 3)(hne:k≠li / wd d) :
  Calls Tryz.prog 81 #[.int .i64 (k:Int),.agg (Pt.pV p).toArray,.pointer (some ⟨bi,0,none⟩),.pointer (some ⟨bwd,0,none⟩),.pointer (some ⟨bw,0,none⟩),.pointer (some ⟨bd,0,none⟩),.pointer (some ⟨bb,0,none⟩)] w fun e w'=>e=.returned (.tuple #[.agg (Pt.pV p).toArray,.int .i64 0])∧Wt w V wb gv q X f st gv G w':=by
 obtain⟨W,hW,hwW,hsW,hbW,hbx,hkW⟩:=hw.boxes [((Pt.pV p).toArray,24),((Pt.pV Pt.pz).toArray,24)]
 obtain⟨r8,k8⟩:=hbx 0 _ rfl
 obtain⟨r9,k9⟩:=hbx 1 _ rfl
 have hWs:=hwW.sz
 have ci:W.cell? ⟨bi,0,none⟩=some (.int .i64 (li:Int)):=cO ((hbW.block _ hc.ki.lt).trans hc.ri)
 have cv:W.cell? ⟨bwd,0,none⟩=some (.int .i64 (wd d:Int)):=cO ((hbW.block _ hc.kv.lt).trans hc.rv)
 have hr8:=Pt.rP r8
 obtain⟨hwp,hwd0,hq0,hqw⟩:=lay_ar hd hi
 have hi0:(0:Int)≤(li:Int):=Int.natCast_nonneg _
 have hv0:(0:Int) < (wd d:Int):=Int.natCast_pos.2 hwp
 have HWT:=Lib.hid hwW
 have hkne:((k:Int) != wrap64 ((li:Int) / (wd d:Int)))=true:=by rw[hqw]; simp only[bne_iff_ne,ne_eq]; omega
 simp only[List.foldl_cons,List.foldl_nil] at hW
 clear hbx hw
 go_enter Tryz.func81,Tryz.ntmps81
 go_upto_region 1 with fail
 rw[Pt.zrow,←hW]
 clear hW
 go_wp2_with (first | (refine wpList_load_mid rfl 24 (.tmp 8) rfl w.heap.size 0 rfl (Pt.pV p) _ (by exact hr8) Pt.undP rfl (Pt.sizeP p) ?_; simp only[Act.put,aA]) | (refine @wpList_store_row _ _ _ _ _ _ _ rfl 24 (.tmp 9) (.tmp 16) rfl (w.heap.size+1) (Pt.pV p).toArray rfl rfl 24 _ r9 (Pt.sizeP' _) rfl (Pt.pV_all _) ?_; simp only[Act.put]))
 refine bodyPost_ret (Pt.rTp rfl rfl rfl (setRow_heap _ _ _ _ _ _ r9)) rfl ?_
 exact⟨rfl,(HWT.out.row k9 (by omega) r9 (by decide) (by decide) (gR _)).1⟩
theorem lay1_go{w:World}{V:Pl}{wb:Nat}{gv:Value}{st:List Value}{G:List Pt.Pn}(hw:Wt w V wb gv q X f st gv G w){bi bwd bw bd bb d li:Nat}{D:Nat→Int}(hc:LayCap w V wb gv bi bwd bw bd bb d li D)(hd:d≤10)(hi:li < wd (d+1))(p:Pt.Pn)(k:Nat)(hk3:k < 3)  (he:k=li / wd d){p2:Pt.Pn}{E1:Int}{G':List Pt.Pn}(HLAY:∀w' gv',Wt w' V wb gv' q X f st gv' G w'→Calls Tryz.prog 47 #[.pointer (some ⟨wb,0,none⟩),.agg (Pt.pV p).toArray,.int .i64 (d:Int),.int .i64 ((li % wd d:Nat):Int),.agg (bl D).toArray] w' fun e w''=>∃gv2,e=.returned (.tuple #[.agg (Pt.pV p2).toArray,.int .i64 E1])∧Wt w' V wb gv' q X' f' st gv2 G' w'') :
  Calls Tryz.prog 81 #[.int .i64 (k:Int),.agg (Pt.pV p).toArray,.pointer (some ⟨bi,0,none⟩),.pointer (some ⟨bwd,0,none⟩),.pointer (some ⟨bw,0,none⟩),.pointer (some ⟨bd,0,none⟩),.pointer (some ⟨bb,0,none⟩)] w fun e w'=>∃gv2,e=.returned (.tuple #[.agg (Pt.pV p2).toArray,.int .i64 E1])∧Wt w V wb gv q X' f' st gv2 G' w':=by
 obtain⟨W,hW,hwW,hsW,hbW,hbx,hkW⟩:=hw.boxes [((Pt.pV p).toArray,24),((Pt.pV Pt.pz).toArray,24)]
 obtain⟨r8,k8⟩:=hbx 0 _ rfl
 obtain⟨r9,k9⟩:=hbx 1 _ rfl
 have hWs:=hwW.sz
 have ci:W.cell? ⟨bi,0,none⟩=some (.int .i64 (li:Int)):=cO ((hbW.block _ hc.ki.lt).trans hc.ri)
 have cv:W.cell? ⟨bwd,0,none⟩=some (.int .i64 (wd d:Int)):=cO ((hbW.block _ hc.kv.lt).trans hc.rv)
 have hr8:=Pt.rP r8
 obtain⟨hwp,hwd0,hq0,hqw⟩:=lay_ar hd hi
 have hi0:(0:Int)≤(li:Int):=Int.natCast_nonneg _
 have hv0:(0:Int) < (wd d:Int):=Int.natCast_pos.2 hwp
 have HWT:=Lib.hid hwW
 have hkeq:((k:Int) != wrap64 ((li:Int) / (wd d:Int)))=false:=by rw[hqw,he]; simp
 have hsub:IntKind.i64.wrap (d:Int)=(d:Int):=d_w hd
 have HL:=Lib.hid (fun w' (h:Wt w V wb gv q X f st gv G w')=>HLAY w' gv h.self)
 rw[Int.natCast_emod] at HL
 have Kw:=Lib.hid (hkW _ hc.kw).2
 have Rw:=Lib.hid ((hkW _ hc.kw).1.trans hc.rw)
 have Kd:=Lib.hid (hkW _ hc.kd).2
 have Rd:=Lib.hid ((hkW _ hc.kd).1.trans hc.rd)
 have Ki:=Lib.hid (hkW _ hc.ki).2
 have Ri:=Lib.hid ((hkW _ hc.ki).1.trans hc.ri)
 have Kv:=Lib.hid (hkW _ hc.kv).2
 have Rv:=Lib.hid ((hkW _ hc.kv).1.trans hc.rv)
 have Kb:=Lib.hid (hkW _ hc.kb).2
 have Rb:=Lib.hid ((hkW _ hc.kb).1.trans hc.rb)
 have K8:=Lib.hid k8
 have R8:=Lib.hid r8
 have K9:=Lib.hid k9
 have R9:=Lib.hid r9
 clear HLAY hkW k8 r8 k9 r9 hwW hbW hc
 simp only[List.foldl_cons,List.foldl_nil] at hW
 clear hbx hw
 go_enter Tryz.func81,Tryz.ntmps81
 go_upto_region 1 with fail
 rw[Pt.zrow,←hW]
 clear hW
 go_wp2_with fail
 refine QuietTail2.regionInv (n:=13) (Inv:=LaInv _ _ _ _ _ _ _ _ _ w W V wb gv q X f X' f' st G G' bi bwd bw bd bb w.heap.size (w.heap.size+1) p d li (wd d) ((li:Int) % (wd d:Int)) D p2 E1) (by kernel_rfl) (by decide) (by kernel_rfl) ⟨_,_,_,_,_,_,_,_,_,_,_,_,rfl,Fa.none _,Od.none _,?_⟩ ?step ?fin
 exact Pc.start HWT.out K9.out (by omega) R9.out
 case step=>
  rintro i o hi ho L a' w' ⟨u0,u1,u2,u3,u4,u5,u6,u7,u8,u9,u10,u12,rfl,TF,TO,TW⟩ hL hpre
  match i,hi with
  | 0,_=>
   simp at ho
   subst ho
   have hn8:L 8=false:=by cases e:L 8 with | false=>rfl | true=>exact absurd (TO.1 e) (by rw[hL]; decide)
   have hcw:=cO (((TW.t0 hn8).2 _ Kw.out).1.trans Rw.out)
   go_simp
   exact⟨_,u1,u2,u3,u4,u5,u6,u7,u8,u9,u10,u12,rfl,TF.set 0,TO.set 0 trivial,TW⟩
  | 1,_=>
   simp at ho
   subst ho
   have hn8:L 8=false:=by cases e:L 8 with | false=>rfl | true=>exact absurd (TO.2.1 e) (by rw[hL]; decide)
   refine wp_load_mid 24 (.tmp 8) rfl w.heap.size 0 rfl (Pt.pV p) _ (Pt.rP (((TW.t0 hn8).2 _ K8.out).1.trans R8.out)) Pt.undP rfl (Pt.sizeP p) ?_
   simp only[Act.put,aA]
   exact⟨u0,_,u2,u3,u4,u5,u6,u7,u8,u9,u10,u12,rfl,TF.set 1,TO.set 1 trivial,TW⟩
  | 2,_=>
   simp at ho
   subst ho
   have hn3:L 3=false:=by cases e:L 3 with | false=>rfl | true=>exact absurd (TO.2.2.2.2.2.1 e) (by rw[hL]; decide)
   have hn8:L 8=false:=by cases e:L 8 with | false=>rfl | true=>exact absurd (TO.2.2.1 e) (by rw[hn3]; decide)
   have hcd:=cO (((TW.t0 hn8).2 _ Kd.out).1.trans Rd.out)
   go_simp
   exact⟨u0,u1,_,u3,u4,u5,u6,u7,u8,u9,u10,u12,rfl,TF.set 2,TO.set 2 trivial,TW⟩
  | 3,_=>
   simp at ho
   subst ho
   obtain rfl:=TF.2.2.1 (hpre 2 (by kernel_rfl))
   have hn8:L 8=false:=by cases e:L 8 with | false=>rfl | true=>exact absurd (TO.2.2.1 e) (by rw[hL]; decide)
   go_simp
   exact⟨u0,u1,_,_,u4,u5,u6,u7,u8,u9,u10,u12,rfl,TF.set 3,TO.set 3 ⟨hpre 2 (by kernel_rfl),trivial⟩,TW⟩
  | 4,_=>
   simp at ho
   subst ho
   have hn6:L 6=false:=by cases e:L 6 with | false=>rfl | true=>exact absurd (TO.2.2.2.2.2.2.1 e) (by rw[hL]; decide)
   have hn8:L 8=false:=by cases e:L 8 with | false=>rfl | true=>exact absurd (TO.2.2.2.1 e) (by rw[hn6]; decide)
   have hci:=cO (((TW.t0 hn8).2 _ Ki.out).1.trans Ri.out)
   go_simp
   exact⟨u0,u1,u2,u3,_,u5,u6,u7,u8,u9,u10,u12,rfl,TF.set 4,TO.set 4 trivial,TW⟩
  | 5,_=>
   simp at ho
   subst ho
   have hn6:L 6=false:=by cases e:L 6 with | false=>rfl | true=>exact absurd (TO.2.2.2.2.2.2.2.1 e) (by rw[hL]; decide)
   have hn8:L 8=false:=by cases e:L 8 with | false=>rfl | true=>exact absurd (TO.2.2.2.1 e) (by rw[hn6]; decide)
   have hcv:=cO (((TW.t0 hn8).2 _ Kv.out).1.trans Rv.out)
   go_simp
   exact⟨u0,u1,u2,u3,u4,_,u6,u7,u8,u9,u10,u12,rfl,TF.set 5,TO.set 5 trivial,TW⟩
  | 6,_=>
   simp at ho
   subst ho
   obtain rfl:=TF.2.2.2.2.1 (hpre 4 (by kernel_rfl))
   obtain rfl:=TF.2.2.2.2.2.1 (hpre 5 (by kernel_rfl))
   have hn8:L 8=false:=by cases e:L 8 with | false=>rfl | true=>exact absurd (TO.2.2.2.1 e) (by rw[hL]; decide)
   go_simp
   exact⟨u0,u1,u2,u3,_,_,_,u7,u8,u9,u10,u12,rfl,TF.set 6,TO.set 6 ⟨hpre 4 (by kernel_rfl),hpre 5 (by kernel_rfl),trivial⟩,TW⟩
  | 7,_=>
   simp at ho
   subst ho
   have hn8:L 8=false:=by cases e:L 8 with | false=>rfl | true=>exact absurd (TO.2.2.2.2.1 e) (by rw[hL]; decide)
   refine wp_load_mid 47 (.tmp 6) rfl bb 0 rfl (bl D) _ (row_all (((TW.t0 hn8).2 _ Kb.out).1.trans Rb.out)) undB rfl (sB D) ?_
   simp only[Act.put,aA]
   exact⟨u0,u1,u2,u3,u4,u5,u6,_,u8,u9,u10,u12,rfl,TF.set 7,TO.set 7 trivial,TW⟩
  | 8,_=>
   simp at ho
   subst ho
   obtain rfl:=TF.1 (hpre 0 (by kernel_rfl))
   obtain rfl:=TF.2.1 (hpre 1 (by kernel_rfl))
   obtain rfl:=TF.2.2.2.1 (hpre 3 (by kernel_rfl))
   obtain rfl:=TF.2.2.2.2.2.2.1 (hpre 6 (by kernel_rfl))
   obtain rfl:=TF.2.2.2.2.2.2.2.1 (hpre 7 (by kernel_rfl))
   go_simp
   refine(HL.out w' (TW.t0 hL).1).mono ?_
   rintro _ w'' ⟨gv2,rfl,hT⟩
   exact⟨_,_,u2,_,u4,u5,_,_,_,u9,u10,u12,rfl,TF.set 8,TO.set 8 ⟨hpre 0 (by kernel_rfl),hpre 1 (by kernel_rfl),hpre 3 (by kernel_rfl),hpre 6 (by kernel_rfl),hpre 7 (by kernel_rfl),trivial⟩,(TW.call hL hT)⟩
  | 9,_=>
   simp at ho
   subst ho
   obtain rfl:=TF.2.2.2.2.2.2.2.2.1 (hpre 8 (by kernel_rfl))
   go_simp
   exact⟨u0,u1,u2,u3,u4,u5,u6,u7,_,_,u10,u12,rfl,TF.set 9,TO.set 9 trivial,TW⟩
  | 10,_=>
   simp at ho
   subst ho
   obtain rfl:=TF.2.2.2.2.2.2.2.2.1 (hpre 8 (by kernel_rfl))
   go_simp
   exact⟨u0,u1,u2,u3,u4,u5,u6,u7,_,u9,_,u12,rfl,TF.set 10,TO.set 10 trivial,TW⟩
  | 11,_=>
   simp at ho
   subst ho
   obtain rfl:=TF.2.2.2.2.2.2.2.2.2.1 (hpre 9 (by kernel_rfl))
   refine wp_store_row 24 (.tmp 9) (.tmp 26) rfl (w.heap.size+1) (Pt.pV p2).toArray rfl rfl 24 _ (TW.row hL) (Pt.sizeP' _) rfl (Pt.pV_all _) ?_
   simp only[Act.put]
   exact⟨u0,u1,u2,u3,u4,u5,u6,u7,u8,_,u10,u12,rfl,TF.set 11,TO.set 11 trivial,(TW.store (hpre 8 (by kernel_rfl)) hL (by decide) (by decide))⟩
  | 12,_=>
   simp at ho
   subst ho
   obtain rfl:=TF.2.2.2.2.2.2.2.2.2.2.1 (hpre 10 (by kernel_rfl))
   go_simp
   exact⟨u0,u1,u2,u3,u4,u5,u6,u7,u8,u9,_,_,rfl,TF.set 12,TO.set 12 trivial,TW⟩
  | i+13,h=>omega
 case fin=>
  rintro L a' w' hall ⟨u0,u1,u2,u3,u4,u5,u6,u7,u8,u9,u10,u12,rfl,TF,TO,hWD⟩
  rw[hall 8 (by omega),hall 11 (by omega)] at hWD
  obtain rfl:=TF.2.2.2.2.2.2.2.2.2.2.2.1 (hall 12 (by omega))
  clear TF TO
  refine wpList_nil ?_
  obtain⟨gv2,k1,k2⟩:=hWD.t1 rfl
  have hr9:=hWD.r.2.2
  have HKF:=Lib.hid k1
  clear hWD k1 k2 HWT HL hall
  go_wp2_with fail
  refine bodyPost_ret (Pt.rTp rfl rfl rfl hr9) rfl ?_
  exact⟨rfl,gv2,HKF.out⟩
end St
namespace St
open Go.RowKit Dk Gm Eqb Rm Di Vl Qv Sp
open Vm (HasVol vM)
attribute [local go_sem] Pt.zvP Pt.zv3 zv29
attribute [local go_sem] Pt.zc3 zc29
variable {q:Qt}{X X':Dst}{f f':Nat→Int}
theorem lay_leaf{w:World}{V:Pl}{wb:Nat}{gv:Value}{st:List Value}{G:List Pt.Pn}(hw:Wt w V wb gv q X f st gv G w)(p:Pt.Pn)(i:Nat)(D:Nat→Int){p2:Pt.Pn}{E1:Int}{G':List Pt.Pn}(HLEAF:∀w',Wt w V wb gv q X f st gv G w'→Calls Tryz.prog 79 #[.pointer (some ⟨wb,0,none⟩),.agg (Pt.pV p).toArray,.agg (bl D).toArray] w' fun e w''=>∃gv2,e=.returned (.tuple #[.agg (Pt.pV p2).toArray,.int .i64 E1])∧Wt w' V wb gv q X' f' st gv2 G' w'') :
  Calls Tryz.prog 47 #[.pointer (some ⟨wb,0,none⟩),.agg (Pt.pV p).toArray,.int .i64 (0),.int .i64 (i:Int),.agg (bl D).toArray] w fun e w'=>∃gv2,e=.returned (.tuple #[.agg (Pt.pV p2).toArray,.int .i64 E1])∧Wt w V wb gv q X' f' st gv2 G' w':=by
 obtain⟨W,hW,hwW,hsW,hbW,hbx,hkW⟩:=hw.boxes [(#[.pointer (some ⟨wb,0,none⟩)],89),((Pt.pV p).toArray,24),(#[.int .i64 (0)],3),(#[.int .i64 (i:Int)],3),((bl D).toArray,47),((Pt.pV Pt.pz).toArray,24)]
 obtain⟨r5,k5⟩:=hbx 0 _ rfl
 obtain⟨r6,k6⟩:=hbx 1 _ rfl
 obtain⟨r7,k7⟩:=hbx 2 _ rfl
 obtain⟨r8,k8⟩:=hbx 3 _ rfl
 obtain⟨r9,k9⟩:=hbx 4 _ rfl
 obtain⟨r10,k10⟩:=hbx 5 _ rfl
 have hWs:=hwW.sz
 have c5:W.cell? ⟨w.heap.size,0,none⟩=some (.pointer (some ⟨wb,0,none⟩)):=cO r5
 have c7:=cO r7
 have c8:=cO r8
 have hr6:=Pt.rP r6
 have hr9:=row_all r9
 have HWT:=Lib.hid hwW
 have HL:=Lib.hid HLEAF
 have K10:=Lib.hid k10
 have R10:=Lib.hid r10
 simp only[List.foldl_cons,List.foldl_nil] at hW
 clear hbx hw hkW HLEAF k5 k6 k7 k8 k9 k10 r5 r6 r7 r8 r9 r10 hwW hbW
 go_enter Tryz.func47,Tryz.ntmps47
 go_upto_region 1 with fail
 rw[Pt.zrow,←hW]
 clear hW
 go_wp2_with (first | (refine wpList_load_mid rfl 24 (.tmp 6) rfl (w.heap.size+1) 0 rfl (Pt.pV p) _ (by exact hr6) Pt.undP rfl (Pt.sizeP p) ?_; simp only[Act.put,aA]) | (refine wpList_load_mid rfl 47 (.tmp 9) rfl (w.heap.size+4) 0 rfl (bl D) _ (by exact hr9) undB rfl (sB D) ?_; simp only[Act.put,aA]))
 refine(HL.out W HWT.out).mono ?_
 rintro _ w2 ⟨gv2,rfl,hT⟩
 dsimp only
 obtain⟨g10,l10⟩:=hT.keep K10.out
 have r10:=g10.trans R10.out
 have HW2:=Lib.hid (HWT.out.trans hT)
 clear hT HL HWT
 go_wp2_with (first | (refine @wpList_store_row _ _ _ _ _ _ _ rfl 24 (.tmp 10) (.tmp 19) rfl (w.heap.size+5) (Pt.pV p2).toArray rfl rfl 24 _ r10 (Pt.sizeP' _) rfl (Pt.pV_all _) ?_; simp only[Act.put]))
 refine bodyPost_ret (Pt.rTp rfl rfl rfl (setRow_heap _ _ _ _ _ _ r10)) rfl ?_
 exact⟨gv2,rfl,(HW2.out.row l10 (by omega) r10 (by decide) (by decide) (gR _)).1⟩
theorem lay_node{w:World}{V:Pl}{wb:Nat}{gv:Value}{st:List Value}{G:List Pt.Pn}(hw:Wt w V wb gv q X f st gv G w)(p:Pt.Pn)(i:Nat)(D:Nat→Int){p2:Pt.Pn}{E1:Int}{G':List Pt.Pn}{d:Nat}(hd:d≤10)(_hi:i < wd (d+1))(HEACH:∀w' bi bwd bw bd bb,Wt w V wb gv q X f st gv G w'→LayCap w' V wb gv bi bwd bw bd bb d i D→Calls Tryz.prog 80 #[.pointer (some ⟨wb,0,none⟩),.agg (Pt.pV p).toArray,.func (.func 81) #[] #[.pointer (some ⟨bi,0,none⟩),.pointer (some ⟨bwd,0,none⟩),.pointer (some ⟨bw,0,none⟩),.pointer (some ⟨bd,0,none⟩),.pointer (some ⟨bb,0,none⟩)]] w' fun e w''=>∃gv2,e=.returned (.tuple #[.agg (Pt.pV p2).toArray,.int .i64 E1])∧Wt w' V wb gv q X' f' st gv2 G' w'') :
  Calls Tryz.prog 47 #[.pointer (some ⟨wb,0,none⟩),.agg (Pt.pV p).toArray,.int .i64 ((d:Int)+1),.int .i64 (i:Int),.agg (bl D).toArray] w fun e w'=>∃gv2,e=.returned (.tuple #[.agg (Pt.pV p2).toArray,.int .i64 E1])∧Wt w V wb gv q X' f' st gv2 G' w':=by
 obtain⟨W,hW,hwW,hsW,hbW,hbx,hkW⟩:=hw.boxes [(#[.pointer (some ⟨wb,0,none⟩)],89),((Pt.pV p).toArray,24),(#[.int .i64 ((d:Int)+1)],3),(#[.int .i64 (i:Int)],3),((bl D).toArray,47),((Pt.pV Pt.pz).toArray,24)]
 obtain⟨r5,k5⟩:=hbx 0 _ rfl
 obtain⟨r6,k6⟩:=hbx 1 _ rfl
 obtain⟨r7,k7⟩:=hbx 2 _ rfl
 obtain⟨r8,k8⟩:=hbx 3 _ rfl
 obtain⟨r9,k9⟩:=hbx 4 _ rfl
 obtain⟨r10,k10⟩:=hbx 5 _ rfl
 have hWs:=hwW.sz
 have c5:W.cell? ⟨w.heap.size,0,none⟩=some (.pointer (some ⟨wb,0,none⟩)):=cO r5
 have c7:=cO r7
 have c8:=cO r8
 have hr6:=Pt.rP r6
 have hr9:=row_all r9
 have hsub:IntKind.i64.wrap (d:Int)=(d:Int):=d_w hd
 have hd0:((d:Int)+1 == 0)=false:=by simp; omega
 have hw27:=wd_bd hd
 have HWT:=Lib.hid hwW
 have HL:=Lib.hid HEACH
 have HR:=Lib.hid (And.intro r5 (And.intro r7 (And.intro r8 r9)))
 have HK:=Lib.hid (And.intro k5 (And.intro k7 (And.intro k8 k9)))
 have K10:=Lib.hid k10
 have R10:=Lib.hid r10
 have HK6:=Lib.hid k6
 simp only[List.foldl_cons,List.foldl_nil] at hW
 clear hbx hw hkW HEACH k5 k6 k7 k8 k9 k10 r5 r6 r7 r8 r9 r10 hwW hbW
 go_enter Tryz.func47,Tryz.ntmps47
 go_upto_region 1 with fail
 rw[Pt.zrow,←hW]
 clear hW
 go_wp2_with fail
 refine(width_any d hd W).mono ?_
 rintro _ _ ⟨rfl,rfl⟩
 dsimp only
 go_upto_region 4 with fail
 obtain⟨hW2,l12,hk2⟩:=HWT.out.alloc (.cells #[.int .i64 (wd d:Int)] 3)
 have r12:=heap_alloc_new W (.cells #[.int .i64 (wd d:Int)] 3)
 have hb2:Below W.heap.size W (W.alloc (.cells #[.int .i64 (wd d:Int)] 3)):=(Below.refl _ _).alloc (Nat.le_refl _) _
 have e6:W.heap.size=w.heap.size+6:=hsW
 rw[e6] at l12 r12
 obtain⟨r5,r7,r8,r9⟩:=HR.out
 obtain⟨k5,k7,k8,k9⟩:=HK.out
 have hcap:LayCap (W.alloc (.cells #[.int .i64 (wd d:Int)] 3)) V wb gv (w.heap.size+1+1+1) (w.heap.size+6) w.heap.size (w.heap.size+1+1) (w.heap.size+1+1+1+1) d i D:=
  ⟨hk2 _ k8,(hb2.block _ k8.lt).trans r8,l12,r12,hk2 _ k5,(hb2.block _ k5.lt).trans r5,hk2 _ k7,(hb2.block _ k7.lt).trans r7,hk2 _ k9,(hb2.block _ k9.lt).trans r9⟩
 have HCAP:=Lib.hid hcap
 have HW2:=Lib.hid hW2
 have H10:=Lib.hid (hk2 _ K10.out)
 have g10:=Lib.hid ((hb2.block _ K10.out.lt).trans R10.out)
 have d5:(W.alloc (.cells #[.int .i64 (wd d:Int)] 3)).cell? ⟨w.heap.size,0,none⟩=some (.pointer (some ⟨wb,0,none⟩)):=cO hcap.rw
 have hr6':(W.alloc (.cells #[.int .i64 (wd d:Int)] 3)).rangeAt (w.heap.size+1) 0 (Pt.pV p):=fun j v hv=>(hb2.cell (p:=⟨w.heap.size+1,0+j,none⟩) HK6.out.lt).trans (hr6 j v hv)
 have hWW:w.heap.size≤W.heap.size:=hWs
 clear hcap hW2 l12 hk2 r12 hb2 r5 r7 r8 r9 k5 k7 k8 k9 c5 c7 c8 hr6 hr9 HR HK K10 R10 HWT HK6
 generalize W.alloc (.cells #[.int .i64 (wd d:Int)] 3)=W2 at HCAP HW2 H10 g10 d5 hr6' ⊢
 go_wp2_with (first | (refine wpList_load_mid rfl 24 (.tmp 6) rfl (w.heap.size+1) 0 rfl (Pt.pV p) _ (by exact hr6') Pt.undP rfl (Pt.sizeP p) ?_; simp only[Act.put,aA]))
 refine(HL.out W2 _ _ _ _ _ HW2.out HCAP.out).mono ?_
 rintro _ w3 ⟨gv2,rfl,hT⟩
 dsimp only
 obtain⟨e10,l10⟩:=hT.keep H10.out
 have r10:=e10.trans g10.out
 have HW3:=Lib.hid (HW2.out.trans hT)
 clear hT HL HW2 HCAP H10 g10
 go_wp2_with (first | (refine @wpList_store_row _ _ _ _ _ _ _ rfl 24 (.tmp 10) (.tmp 28) rfl (w.heap.size+5) (Pt.pV p2).toArray rfl rfl 24 _ r10 (Pt.sizeP' _) rfl (Pt.pV_all _) ?_; simp only[Act.put]))
 refine bodyPost_ret (Pt.rTp rfl rfl rfl (setRow_heap _ _ _ _ _ _ r10)) rfl ?_
 exact⟨gv2,rfl,(HW3.out.row l10 (by omega) r10 (by decide) (by decide) (gR _)).1⟩
end St
end Go.Proofs.YteaocagepfgfnaaGreatDoor
