import Derived.Test.YteaocagepfgfnaaGreatDoorPVlC
import Derived.Test.YteaocagepfgfnaaGreatDoorPSpDrM
import Derived.Test.YteaocagepfgfnaaGreatDoorPDiPut
import Derived.Test.YteaocagepfgfnaaGreatDoorPDiGet
import Derived.Test.YteaocagepfgfnaaGreatDoorPSpTk
import Derived.Test.YteaocagepfgfnaaGreatDoorPAl
set_option maxRecDepth 100000
set_option maxHeartbeats 8000000
namespace Go.Proofs.YteaocagepfgfnaaGreatDoor
namespace Vl
open Go.RowKit Dk Gm Eqb
def spPl(b:Nat)(v0 v1 v2 v3 v4 v5:Value):Pl:=⟨b,[v0,v1,v2,v3,v4,v5],[],43⟩
theorem sp_bs{w:World}{b:Nat}{sa ca pa ao:Option Addr}{n sc m cc k cap kk kc:Nat}{fu gen A B Z:Int}{d:Bool}(h:Vb w b (.slice sa n sc) (.slice ca m cc) (.int .i64 fu) (.bool d) (.int .i64 gen) (.slice pa k cap) (.int .i64 A) (.int .i64 B) (.int .i64 Z) (.slice ao kk kc)) :
  Sp.Bs w (spPl b (.slice sa n sc) (.slice ca m cc) (.int .i64 fu) (.bool d) (.int .i64 gen) (.slice pa k cap)) A B Z ao kk kc:=by
 refine⟨h,?_⟩
 intro x hx z
 simp only[spPl,List.append_nil,List.mem_cons,List.not_mem_nil,or_false] at hx
 rcases hx with rfl | rfl | rfl | rfl | rfl | rfl <;> simp
theorem below_row{a w w':World}{b:Nat}(hb:Below a.heap.size a w)(hg:w.grownBy w' (some b))(hk:a.heap.size≤b):Below a.heap.size a w':=
 ⟨hg.os.trans hb.os,hg.tape.trans hb.tape,hg.output.trans hb.output,Nat.le_trans hb.size hg.size,fun k hk'=>(hg.block k (Nat.lt_of_lt_of_le hk' hb.size) (by simp; omega)).trans (hb.block k hk')⟩
theorem box_vp(w:World)(v0 v1 v2 v3 v4 v5 v6 v7 v8 v9:Value)(p:Pt.Pn):∃W,W=(w.alloc (.cells #[v0,v1,v2,v3,v4,v5,v6,v7,v8,v9] 43)).alloc (.cells (Pt.pV p).toArray 24)∧Below w.heap.size w W∧W.heap.size=w.heap.size+2∧Vb W w.heap.size v0 v1 v2 v3 v4 v5 v6 v7 v8 v9∧
  W.heap[w.heap.size+1]?=some (.cells (Pt.pV p).toArray 24 (0,0)):=by
 refine⟨_,rfl,((Below.refl _ _).alloc (Nat.le_refl _) _).alloc (by simp) _,by simp,(Below.heap_alloc _ _ _ (by simp)).trans (heap_alloc_new w _),?_⟩
 have:=heap_alloc_new (w.alloc (.cells #[v0,v1,v2,v3,v4,v5,v6,v7,v8,v9] 43)) (.cells (Pt.pV p).toArray 24)
 rwa [World.size_alloc] at this
def mnB(n m:Nat)(C:Nat→Wr)(gen:Int)(k:Nat)(F T:Nat→Int)(A B Z:Int)(kk:Nat)(f:Nat→Int)(p:Pt.Pn):Bool:=rvB n m C gen k F T A B Z kk f && Sp.drB A B Z kk f p
theorem Mine_any(sa:Option Addr)(n sc:Nat)(ca:Option Addr)(m cc:Nat)(fu:Int)(d:Bool)(gen:Int)(pa:Option Addr)(k cap:Nat)(A B Z:Int)(ao:Option Addr)(kk kc g:Nat)(C:Nat→Wr)(F T:Nat→Int)(f:Nat→Int)(p:Pt.Pn)(w:World)
  (hn:n≤140737488355328) (hm:m≤140737488355328) (hc:Lay w w.heap.size g ca m cc 129 (fun i=>wrV (C i))) (hl:Lay w w.heap.size g pa k cap 2 (Rm.prV F T)) (hk:k≤140737488355328) (hF:∀i,i < k→Rm.i64 (F i)∧Rm.i64 (T i)) (hB:Sp.i64 B) (hs:Sp.St w w.heap.size ao kk kc f) (hpA:Sp.i64 p.A) (hpB:Sp.i64 p.B) :
  Calls Tryz.prog 71 #[.agg #[.slice sa n sc,.slice ca m cc,.int .i64 fu,.bool d,.int .i64 gen,.slice pa k cap,.int .i64 A,.int .i64 B,.int .i64 Z,.slice ao kk kc],.agg (Pt.pV p).toArray] w fun e w'=>e=.returned (.bool (mnB n m C gen k F T A B Z kk f p))∧Below w.heap.size w w':=by
 obtain⟨W,hW,hB0,hs0,hX0,hP0⟩:=box_vp w (.slice sa n sc) (.slice ca m cc) (.int .i64 fu) (.bool d) (.int .i64 gen) (.slice pa k cap) (.int .i64 A) (.int .i64 B) (.int .i64 Z) (.slice ao kk kc) p
 have HRT:=Lib.hid (Right_any sa n sc ca m cc fu d gen pa k cap A B Z ao kk kc g C F T f W hn hm ((hc.below hB0).more hB0.size) ((hl.below hB0).more hB0.size) hk hF hB (hs.later hB0))
 have HDR:=Lib.hid (fun w' (h:Below W.heap.size W w')=>Sp.Drop_any _ A B Z p ao kk kc f w' (sp_bs (hX0.below h (by omega))) hB (hs.later (hB0.trans (h.mono hB0.size))) hpA hpB)
 have HPP:=Lib.hid (fun w' (h:Below W.heap.size W w')=>Pt.rP ((h.block (w.heap.size+1) (by omega)).trans hP0))
 have HV:Hid (mnB n m C gen k F T A B Z kk f p=(rvB n m C gen k F T A B Z kk f && (Sp.drE A B Z kk f p == 0))):=Lib.hid (by
  unfold mnB Sp.drE
  cases Sp.drB A B Z kk f p <;> rfl)
 have c0:=hX0.c0
 have c1:=hX0.c1
 have c2:=hX0.c2
 have c3:=hX0.c3
 have c4:=hX0.c4
 have c5:=hX0.c5
 have c6:=hX0.c6
 have c7:=hX0.c7
 have c8:=hX0.c8
 have c9:=hX0.c9
 clear hX0 hP0 hs hl hF hc
 generalize mnB n m C gen k F T A B Z kk f p=V at HV ⊢
 generalize Sp.drE A B Z kk f p=E at HDR HV
 generalize rvB n m C gen k F T A B Z kk f=R at HRT HV
 go_enter Tryz.func71,Tryz.ntmps71
 go_wp2_with (rw[←hW])
 clear hW
 refine HRT.out.mono ?_
 rintro _ w1 ⟨rfl,hb1⟩
 have HD1:=Lib.hid (HDR.out w1 hb1)
 have q1:=HPP.out w1 hb1
 clear HDR HPP c0 c1 c2 c3 c4 c5 c6 c7 c8 c9
 dsimp only
 cases R with
 | false=>
  go_wp2_with fail
  go_ret
  exact⟨by rw[HV.out]; rfl,hB0.trans (hb1.mono hB0.size)⟩
 | true=>
  go_wp2_with (refine @wG _ _ _ _ _ _ _ (by kernel_rfl) 24 (.tmp 3) rfl (w.heap.size+1) 0 rfl (Pt.pV p) _ q1 Pt.undP rfl (Pt.sizeP p) ?_; simp only[Act.put,aA])
  refine HD1.out.mono ?_
  rintro _ w2 ⟨rfl,hT⟩
  have hb2:Below w.heap.size w w2:=below_row (hB0.trans (hb1.mono hB0.size)) hT.only (Nat.le_refl _)
  clear HD1 hT q1
  dsimp only
  go_wp2_with fail
  go_ret
  exact⟨by rw[HV.out]; rfl,hb2⟩
end Vl
namespace Vm
open Go.RowKit Dk Byt Rm Di
def spC(A B Z:Int)(ao:Option Addr)(k kc:Nat):List Value:=[.int .i64 A,.int .i64 B,.int .i64 Z,.slice ao k kc]
def HasVol(w:World)(V:Pl)(n:Nat)(X:Dst)(M:Tab)(A B Z:Int)(k:Nat)(f:Nat→Int):Prop:=
 V.NoB∧∃ao kc,HasV w (V.hd (spC A B Z ao k kc)) n X M∧Sp.St w w.heap.size ao k kc f
section
variable {w w':World}{V:Pl}{n k:Nat}{X X':Dst}{M M':Tab}{A B Z:Int}{f f':Nat→Int}{ao:Option Addr}{kc:Nat}
theorem sp_at(hN:V.NoB)(h:HasV w (V.hd (spC A B Z ao k kc)) n X M):∃l,Sp.Bs w (V.tl l) A B Z ao k kc∧l.length=6:=by
 obtain⟨pa,cap,⟨sa,sc,ca,cc,hh⟩,_,_⟩:=h
 have h1:=Pl.at_hd.1 (Pl.at_hd.1 hh.bx)
 refine⟨[.slice sa n sc,.slice ca X.m cc,.int .i64 X.f,.bool X.d,.int .i64 M.gen,.slice pa M.k cap],⟨Pl.at_tl.2 (by simpa[spC] using h1),?_⟩,rfl⟩
 intro x hx z
 simp only[Pl.tl,List.mem_append,List.mem_cons,List.not_mem_nil,or_false] at hx
 rcases hx with (hx | hx | hx | hx | hx | hx | hx) | hx
 ·exact hN x (by simp[hx]) z
 ·rw[hx]; simp
 ·rw[hx]; simp
 ·rw[hx]; simp
 ·rw[hx]; simp
 ·rw[hx]; simp
 ·rw[hx]; simp
 ·exact hN x (by simp[hx]) z
theorem HasVol.disk(h:HasVol w V n X M A B Z k f):∃ao kc,HasV w (V.hd (spC A B Z ao k kc)) n X M∧∀w' X' M',w.grownBy w' (some V.b)→HasV w' (V.hd (spC A B Z ao k kc)) n X' M'→HasVol w' V n X' M' A B Z k f:=by
 obtain⟨hN,ao,kc,hv,hs⟩:=h
 obtain⟨l,hb,_⟩:=sp_at hN hv
 exact⟨ao,kc,hv,fun w' X' M' hg hv'=>⟨hN,ao,kc,hv',hs.keepG (Nat.le_refl _) hb hg⟩⟩
theorem HasVol.space(h:HasVol w V n X M A B Z k f):∃l ao kc,l.length=6∧Sp.Bs w (V.tl l) A B Z ao k kc∧Sp.St w w.heap.size ao k kc f∧∀w' f',Sp.Turn w (V.tl l) A B Z k f' w'→HasVol w' V n X M A B Z k f':=by
 obtain⟨hN,ao,kc,hv,hs⟩:=h
 obtain⟨pa,cap,⟨sa,sc,ca,cc,hh⟩,hl,h0⟩:=hv
 have h1:=Pl.at_hd.1 (Pl.at_hd.1 hh.bx)
 refine⟨[.slice sa n sc,.slice ca X.m cc,.int .i64 X.f,.bool X.d,.int .i64 M.gen,.slice pa M.k cap],ao,kc,rfl,?_,hs,?_⟩
 ·obtain⟨l,hb,_⟩:=sp_at hN ⟨pa,cap,⟨sa,sc,ca,cc,hh⟩,hl,h0⟩
  refine⟨Pl.at_tl.2 (by simpa[spC] using h1),?_⟩
  intro x hx z
  simp only[Pl.tl,List.mem_append,List.mem_cons,List.not_mem_nil,or_false] at hx
  rcases hx with (hx | hx | hx | hx | hx | hx | hx) | hx
  ·exact hN x (by simp[hx]) z
  ·rw[hx]; simp
  ·rw[hx]; simp
  ·rw[hx]; simp
  ·rw[hx]; simp
  ·rw[hx]; simp
  ·rw[hx]; simp
  ·exact hN x (by simp[hx]) z
 ·rintro w' f' ⟨⟨ao',kc',hb',hs'⟩,hg,_⟩
  have hg':w.grownBy w' (some V.b):=hg
  have h2:=Pl.at_tl.1 hb'.1
  refine⟨hN,ao',kc',⟨pa,cap,⟨sa,sc,ca,cc,Pl.at_hd.2 (Pl.at_hd.2 (by simpa[spC] using h2)),(hh.ss.grown hg' (Nat.le_refl _)).more hg'.size,(hh.cs.grown hg' (Nat.le_refl _)).more hg'.size,hh.nb,hh.mb,hh.ts.grown hh.ss hg' (Nat.le_refl _),hh.tc.grown hh.cs hg' (Nat.le_refl _)⟩,(hl.grown hg' (Nat.le_refl _)).more hg'.size,h0⟩,hs'⟩
theorem HasVol.below(h:HasVol w V n X M A B Z k f)(hb:Below w.heap.size w w'):HasVol w' V n X M A B Z k f:=by
 obtain⟨hN,ao,kc,hv,hs⟩:=h
 exact⟨hN,ao,kc,HasV.below hv hb,hs.later hb⟩
theorem HasVol.lt(h:HasVol w V n X M A B Z k f):V.b < w.heap.size:=by
 obtain⟨_,ao,kc,hv,_⟩:=h
 exact hasV_lt (g:=V.hd (spC A B Z ao k _)) hv
theorem tl_place(V:Pl){l:List Value}(h:l.length=6):(V.tl l).o=V.o+6∧(V.tl l).b=V.b:=⟨by rw[Pl.tl_o,h],rfl⟩
end
end Vm
namespace Vl
open Go.RowKit Dk Gm Eqb Rm Vm
attribute [local irreducible] wpQuiet
structure Vx(w:World)(V:Pl)(n:Nat)(X:Dst)(M:Tab)(A B Z:Int)(k:Nat)(f:Nat→Int)(sa:Option Addr)(sc:Nat)(ca:Option Addr)(cc:Nat)(pa:Option Addr)(cap:Nat)(ao:Option Addr)(kc:Nat):Prop where
 at':V.At w [.slice sa n sc,.slice ca X.m cc,.int .i64 X.f,.bool X.d,.int .i64 M.gen,.slice pa M.k cap,.int .i64 A,.int .i64 B,.int .i64 Z,.slice ao k kc]
 ss:Lay w w.heap.size V.b sa n sc 130 (fun i=>secV (X.S i))
 cs:Lay w w.heap.size V.b ca X.m cc 129 (fun i=>wrV (X.C i))
 ls:Lay w w.heap.size V.b pa M.k cap 2 (prV M.F M.T)
 st:Sp.St w w.heap.size ao k kc f
 nb:n * 130≤140737488355328
 mb:X.m * 136≤140737488355328
 ts:Ty w n sa 130
 tc:Ty w X.m ca 108
section
variable {w w':World}{V:Pl}{n k:Nat}{X:Dst}{M:Tab}{A B Z:Int}{f:Nat→Int}{sa ca pa ao:Option Addr}{sc cc cap kc:Nat}
theorem HasVol.open'(h:HasVol w V n X M A B Z k f):∃sa sc ca cc pa cap ao kc,Vx w V n X M A B Z k f sa sc ca cc pa cap ao kc:=by
 obtain⟨hN,ao,kc,⟨pa,cap,⟨sa,sc,ca,cc,hh⟩,hl,h0⟩,hs⟩:=h
 have h1:=Pl.at_hd.1 (Pl.at_hd.1 hh.bx)
 exact⟨sa,sc,ca,cc,pa,cap,ao,kc,by simpa[Vm.spC] using h1,hh.ss,hh.cs,hl,hs,hh.nb,hh.mb,hh.ts,hh.tc⟩
theorem Vx.has(h:Vx w V n X M A B Z k f sa sc ca cc pa cap ao kc)(hN:V.NoB)(h0:V.b≠0):HasVol w V n X M A B Z k f:=
 ⟨hN,ao,kc,⟨pa,cap,⟨sa,sc,ca,cc,⟨Pl.at_hd.2 (Pl.at_hd.2 (by simpa[Vm.spC] using h.at')),h.ss,h.cs,h.nb,h.mb,h.ts,h.tc⟩⟩,h.ls,h0⟩,h.st⟩
theorem Vx.below(h:Vx w V n X M A B Z k f sa sc ca cc pa cap ao kc)(hb:Below w.heap.size w w'):Vx w' V n X M A B Z k f sa sc ca cc pa cap ao kc:=
 ⟨h.at'.below hb,(h.ss.below hb).more hb.size,(h.cs.below hb).more hb.size,(h.ls.below hb).more hb.size,h.st.later hb,h.nb,h.mb,h.ts.below h.ss hb,h.tc.below h.cs hb⟩
theorem Vx.c0(h:Vx w V n X M A B Z k f sa sc ca cc pa cap ao kc):w.cell? ⟨V.b,V.o,none⟩=some (.slice sa n sc):=h.at'.cell (j:=0) (by simp)
theorem Vx.c1(h:Vx w V n X M A B Z k f sa sc ca cc pa cap ao kc):w.cell? ⟨V.b,V.o+1,none⟩=some (.slice ca X.m cc):=h.at'.cell (j:=1) (by simp)
theorem Vx.c2(h:Vx w V n X M A B Z k f sa sc ca cc pa cap ao kc):w.cell? ⟨V.b,V.o+2,none⟩=some (.int .i64 X.f):=h.at'.cell (j:=2) (by simp)
theorem Vx.c3(h:Vx w V n X M A B Z k f sa sc ca cc pa cap ao kc):w.cell? ⟨V.b,V.o+3,none⟩=some (.bool X.d):=h.at'.cell (j:=3) (by simp)
theorem Vx.c4(h:Vx w V n X M A B Z k f sa sc ca cc pa cap ao kc):w.cell? ⟨V.b,V.o+4,none⟩=some (.int .i64 M.gen):=h.at'.cell (j:=4) (by simp)
theorem Vx.c5(h:Vx w V n X M A B Z k f sa sc ca cc pa cap ao kc):w.cell? ⟨V.b,V.o+5,none⟩=some (.slice pa M.k cap):=h.at'.cell (j:=5) (by simp)
theorem Vx.c6(h:Vx w V n X M A B Z k f sa sc ca cc pa cap ao kc):w.cell? ⟨V.b,V.o+6,none⟩=some (.int .i64 A):=h.at'.cell (j:=6) (by simp)
theorem Vx.c7(h:Vx w V n X M A B Z k f sa sc ca cc pa cap ao kc):w.cell? ⟨V.b,V.o+7,none⟩=some (.int .i64 B):=h.at'.cell (j:=7) (by simp)
theorem Vx.c8(h:Vx w V n X M A B Z k f sa sc ca cc pa cap ao kc):w.cell? ⟨V.b,V.o+8,none⟩=some (.int .i64 Z):=h.at'.cell (j:=8) (by simp)
theorem Vx.c9(h:Vx w V n X M A B Z k f sa sc ca cc pa cap ao kc):w.cell? ⟨V.b,V.o+9,none⟩=some (.slice ao k kc):=h.at'.cell (j:=9) (by simp)
theorem Vx.fr(h:Vx w V n X M A B Z k f sa sc ca cc pa cap ao kc)(j:Nat):w.frozen? ⟨V.b,j,none⟩=false:=h.at'.fr j
theorem Vx.lt(h:Vx w V n X M A B Z k f sa sc ca cc pa cap ao kc):V.b < w.heap.size:=h.at'.lt
end
def rv(n:Nat)(X:Dst)(M:Tab)(A B Z:Int)(k:Nat)(f:Nat→Int):Bool:=rvB n X.m X.C M.gen M.k M.F M.T A B Z k f
def mn(n:Nat)(X:Dst)(M:Tab)(A B Z:Int)(k:Nat)(f:Nat→Int)(p:Pt.Pn):Bool:=mnB n X.m X.C M.gen M.k M.F M.T A B Z k f p
theorem right_v{w:World}{V:Pl}{n k:Nat}{X:Dst}{M:Tab}{A B Z:Int}{f:Nat→Int}(h:HasVol w V n X M A B Z k f)(hm:TabOk M)(hB:Sp.i64 B) :
  Calls Tryz.prog 111 #[.pointer (some ⟨V.b,V.o,none⟩)] w fun e w'=>e=.returned (.bool (rv n X M A B Z k f))∧Below w.heap.size w w':=by
 obtain⟨sa,sc,ca,cc,pa,cap,ao,kc,hx⟩:=HasVol.open' h
 have HR:=Lib.hid (Right_any sa n sc ca X.m cc X.f X.d M.gen pa M.k cap A B Z ao k kc V.b X.C M.F M.T f w (by have:=hx.nb; omega) (by have:=hx.mb; omega) hx.cs hx.ls hm.1 hm.2 hB hx.st)
 have hv:Hid (rv n X M A B Z k f=rvB n X.m X.C M.gen M.k M.F M.T A B Z k f):=Lib.hid rfl
 rw[hv.out]
 generalize rvB n X.m X.C M.gen M.k M.F M.T A B Z k f=R at HR ⊢
 have c0:=hx.c0
 have c1:=hx.c1
 have c2:=hx.c2
 have c3:=hx.c3
 have c4:=hx.c4
 have c5:=hx.c5
 have c6:=hx.c6
 have c7:=hx.c7
 have c8:=hx.c8
 have c9:=hx.c9
 clear hx h hm hB hv
 go_enter Tryz.func111,Tryz.ntmps111
 go_wp2_with fail
 refine HR.out.mono ?_
 rintro _ w1 ⟨rfl,hb1⟩
 clear c0 c1 c2 c3 c4 c5 c6 c7 c8 c9 HR
 dsimp only
 go_wp2_with fail
 go_ret
 exact⟨rfl,hb1⟩
theorem mine_v{w:World}{V:Pl}{n k:Nat}{X:Dst}{M:Tab}{A B Z:Int}{f:Nat→Int}(h:HasVol w V n X M A B Z k f)(hm:TabOk M)(hB:Sp.i64 B)(p:Pt.Pn)(hpA:Sp.i64 p.A)(hpB:Sp.i64 p.B) :
  Calls Tryz.prog 76 #[.pointer (some ⟨V.b,V.o,none⟩),.agg (Pt.pV p).toArray] w fun e w'=>e=.returned (.bool (mn n X M A B Z k f p))∧Below w.heap.size w w':=by
 obtain⟨sa,sc,ca,cc,pa,cap,ao,kc,hx⟩:=HasVol.open' h
 obtain⟨hb0,hx0,hs0⟩:=Pt.box_pt w p
 have HR:=Lib.hid (fun w' (h:Below w.heap.size w w')=>Mine_any sa n sc ca X.m cc X.f X.d M.gen pa M.k cap A B Z ao k kc V.b X.C M.F M.T f p w' (by have:=hx.nb; omega) (by have:=hx.mb; omega) (hx.below h).cs (hx.below h).ls hm.1 hm.2 hB (hx.below h).st hpA hpB)
 have hv:Hid (mn n X M A B Z k f p=mnB n X.m X.C M.gen M.k M.F M.T A B Z k f p):=Lib.hid rfl
 rw[hv.out]
 generalize mnB n X.m X.C M.gen M.k M.F M.T A B Z k f p=R at HR ⊢
 have HXX:=Lib.hid (fun w' (h:Below w.heap.size w w')=>hx.below h)
 clear hx h hm hB hv
 go_enter Tryz.func76,Tryz.ntmps76
 go_wp2_with fail
 generalize w.alloc (.cells (Pt.pV p).toArray 24)=W at hb0 hx0 hs0 ⊢
 have HX:=Lib.hid (fun w' (hw':Below W.heap.size W w')=>HXX.out w' (hb0.trans (hw'.mono hb0.size)))
 have HC:=Lib.hid (fun w' (hw':Below W.heap.size W w')=>HR.out w' (hb0.trans (hw'.mono hb0.size)))
 have HP:=Lib.hid (fun w' (hw':Below W.heap.size W w')=>Pt.rP ((hw'.block w.heap.size (by omega)).trans hx0))
 clear hx0 HXX HR
 refine wp_region_quiet (C:=fun w'=>Below W.heap.size W w') (by kernel_rfl) (by kernel_rfl) ⟨rfl,rfl,rfl,Nat.le_refl _,fun _ _=>rfl⟩ ?_
 refine q_move _ rfl rfl ?_
 simp only[Act.put,aA]
 refine q_val (.bool true) rfl (fun w' hw'=>by go_simp) ?_
 simp only[Act.put,aA]
 refine q_move _ rfl rfl ?_
 simp only[Act.put,aA]
 refine q_move _ rfl (by kernel_rfl) ?_
 simp only[Act.put,aA]
 refine q_val (.pointer (some ⟨V.b,V.o,none⟩)) (by kernel_rfl) (fun w' hw'=>by go_simp) ?_
 simp only[Act.put,aA]
 refine q_val (.agg #[.slice sa n sc,.slice ca X.m cc,.int .i64 X.f,.bool X.d,.int .i64 M.gen,.slice pa M.k cap,.int .i64 A,.int .i64 B,.int .i64 Z,.slice ao k kc]) (by kernel_rfl) (fun w' hw'=>by have hv:=HX.out w' hw'; have k0:=hv.c0; have k1:=hv.c1; have k2:=hv.c2; have k3:=hv.c3; have k4:=hv.c4; have k5:=hv.c5; have k6:=hv.c6; have k7:=hv.c7; have k8:=hv.c8; have k9:=hv.c9; clear hv; go_simp) ?_
 simp only[Act.put,aA]
 refine q_loadB 24 (.tmp 3) rfl (by kernel_rfl) w.heap.size 0 rfl (Pt.pV p) _ (fun w' hw'=>HP.out w' hw') Pt.undP rfl (Pt.sizeP p) ?_
 simp only[Act.put,aA]
 refine q_call 71 _ (.bool R) (by kernel_rfl) (fun w'=>by go_simp) (fun w' hw'=>(HC.out w' hw').mono fun e w'' ⟨he,hb⟩=>⟨he,hw'.trans (hb.mono hw'.size)⟩) ?_
 simp only[Act.put,aA]
 refine q_val (.bool R) rfl (fun w' hw'=>by go_simp) ?_
 simp only[Act.put,aA]
 refine q_val (.bool R) rfl (fun w' hw'=>by go_simp) ?_
 simp only[Act.put,aA]
 refine wpQuiet_nil ?_
 intro w3 hw3
 go_wp2_with fail
 go_ret
 exact⟨rfl,hb0.trans (hw3.mono hb0.size)⟩
end Vl
namespace Vl
open Go.RowKit Dk Gm Eqb Rm Vm Di
theorem hasVol_ne{w:World}{V:Pl}{n k:Nat}{X:Dst}{M:Tab}{A B Z:Int}{f:Nat→Int}(h:HasVol w V n X M A B Z k f):V.b≠0:=by
 obtain⟨_,ao,kc,⟨_,_,_,_,h0⟩,_⟩:=h
 exact h0
theorem hasV_c9{w:World}{V:Pl}{n k kc:Nat}{X:Dst}{M:Tab}{A B Z:Int}{ao:Option Addr}(h:HasV w (V.hd (Vm.spC A B Z ao k kc)) n X M):w.cell? ⟨V.b,V.o+9,none⟩=some (.slice ao k kc):=by
 obtain⟨pa,cap,⟨sa,sc,ca,cc,hh⟩,_,_⟩:=h
 have h1:=Pl.at_hd.1 (Pl.at_hd.1 hh.bx)
 simp only[Vm.spC,List.cons_append,List.nil_append] at h1
 exact h1.cell (j:=9) (by simp)
def Loc(w:World)(V:Pl)(w':World):Prop:=∀q o s k c,w'.cell? ⟨V.b,V.o+9,none⟩=some (.slice (some ⟨q,o,s⟩) k c)→w.heap.size≤q∨∃k2 c2,w.cell? ⟨V.b,V.o+9,none⟩=some (.slice (some ⟨q,o,s⟩) k2 c2)
structure Tv(w:World)(V:Pl)(n:Nat)(X:Dst)(M:Tab)(A B Z:Int)(k:Nat)(f:Nat→Int)(w':World):Prop where
 v:HasVol w' V n X M A B Z k f
 g:w.grownBy w' (some V.b)
 l:Loc w V w'
def Off(w:World)(V:Pl)(b:Nat):Prop:=V.b≠b∧∀q o s k c,w.cell? ⟨V.b,V.o+9,none⟩=some (.slice (some ⟨q,o,s⟩) k c)→q≠b
section
variable {w w' w'':World}{V:Pl}{n k:Nat}{X X':Dst}{M M':Tab}{A B Z:Int}{f f':Nat→Int}
theorem Loc.refl(w:World)(V:Pl):Loc w V w:=fun _ _ _ k c h=>.inr ⟨k,c,h⟩
theorem Loc.below(hb:Below w.heap.size w w')(hV:V.b < w.heap.size):Loc w V w':=fun _ _ _ k c h=>.inr ⟨k,c,by rw[←h]; exact(hb.cell hV).symm⟩
theorem Loc.trans(h:Loc w V w')(h':Loc w' V w'')(hs:w.heap.size≤w'.heap.size):Loc w V w'':=fun q o s k c e=>by
 rcases h' q o s k c e with h1 | ⟨k2,c2,h1⟩
 ·exact .inl (by omega)
 ·exact h q o s k2 c2 h1
theorem Loc.same(h:w'.cell? ⟨V.b,V.o+9,none⟩=w.cell? ⟨V.b,V.o+9,none⟩):Loc w V w':=fun _ _ _ k c e=>.inr ⟨k,c,by rw[←h]; exact e⟩
theorem Tv.below(h:Tv w V n X M A B Z k f w')(hb:Below w'.heap.size w' w''):Tv w V n X M A B Z k f w'':=
 ⟨h.v.below hb,Dk.oT h.g (Dk.oB hb),h.l.trans (Loc.below hb h.v.lt) h.g.size⟩
theorem Tv.of(h:HasVol w V n X M A B Z k f)(hb:Below w.heap.size w w'):Tv w V n X M A B Z k f w':=⟨h.below hb,Dk.oB hb,Loc.below hb h.lt⟩
theorem Tv.trans(h:Tv w V n X M A B Z k f w')(h':Tv w' V n X' M' A B Z k f' w''):Tv w V n X' M' A B Z k f' w'':=⟨h'.v,Dk.oT h.g h'.g,h.l.trans h'.l h.g.size⟩
theorem Off.loc{b:Nat}(h:Off w V b)(hb:b < w.heap.size)(hl:Loc w V w'):Off w' V b:=⟨h.1,fun q o s k c e=>by
 rcases hl q o s k c e with h1 | ⟨k2,c2,h1⟩
 ·omega
 ·exact h.2 q o s k2 c2 h1⟩
theorem Off.new{b:Nat}(h:HasVol w V n X M A B Z k f)(hk:0 < k)(hb:w.heap.size≤b):Off w V b:=by
 have hl:=h.lt
 obtain⟨_,ao,kc,hv,hs⟩:=h
 refine⟨by omega,fun q o s k2 c e=>?_⟩
 rw[hasV_c9 hv] at e
 injection e with e
 injection e with e1
 obtain⟨b',off,e2,hb',_⟩:=Sp.bytes_tab hs.lies hk
 rw[e2] at e1
 injection e1 with e1
 injection e1 with e1
 omega
theorem hasVol_only{b:Nat}{cur:Array Value}{t:TypeId}{fr:Nat × Nat}(h:HasVol w V n X M A B Z k f)(_hk:0 < k)(ho:Off w V b)(hb:w.heap[b]?=some (.cells cur t fr))(t1:t≠130)(t2:t≠108)
  (hM:M.k=0∨((∃s,Rm.rightB s M.gen M.k M.F M.T=true)∧∀(i:Nat) (z:Int),cur[i]?=some (.int .i64 z)→z < 8)) (hg:w.grownBy w' (some b)):HasVol w' V n X M A B Z k f∧Off w' V b:=by
 have hl:=h.lt
 have hc9:w'.cell? ⟨V.b,V.o+9,none⟩=w.cell? ⟨V.b,V.o+9,none⟩:=World.cell?_of_block (hg.block V.b hl (by simpa using ho.1))
 refine⟨?_,ho.1,fun q o s k c e=>ho.2 q o s k c (by rw[←hc9]; exact e)⟩
 obtain⟨hN,ao,kc,hv,hs⟩:=h
 have c9:=hasV_c9 hv
 obtain⟨pa,cap,⟨sa,sc,ca,cc,hh⟩,hl2,h0⟩:=hv
 have lay:∀{ao:Option Addr} {k c z:Nat} {T:Nat→List Value},Lay w w.heap.size V.b ao k c z T→(k=0∨∀q o s,ao=some ⟨q,o,s⟩→q≠b)→Lay w' w'.heap.size V.b ao k c z T:=by
  intro ao k c z T hl hz
  refine Lay.more (B:=w.heap.size) ⟨hl.room,hl.nil,?_⟩ hg.size
  rcases hl.rows with h0 | ⟨q,off,e,hq,hqg,hr⟩
  ·exact .inl h0
  ·rcases hz with h0 | hz
   ·exact .inl h0
   ·exact .inr ⟨q,off,e,hq,hqg,fun i hi j v hv=>(World.cell?_of_block (hg.block q hq (by simpa using hz q off _ e))).trans (hr i hi j v hv)⟩
 have ts:=hh.ts.ne hb t1
 have tc:=hh.tc.ne hb t2
 have tyk:∀{ao:Option Addr} {k c z:Nat} {T:Nat→List Value} {t:TypeId},Lay w w.heap.size V.b ao k c z T→Ty w k ao t→(k=0∨∀q o s,ao=some ⟨q,o,s⟩→q≠b)→Ty w' k ao t:=by
  intro ao k c z T t hl ht hz
  rcases hz with h0 | hz
  ·exact .inl h0
  ·exact ht.grown2 (g:=V.b) hg hl fun q o e=>.inr (by simpa using hz q o _ e)
 refine⟨hN,ao,kc,⟨pa,cap,⟨sa,sc,ca,cc,hh.bx.block (hg.block V.b hl (by simpa using ho.1)),lay hh.ss ts,lay hh.cs tc,hh.nb,hh.mb,tyk hh.ss hh.ts ts,tyk hh.cs hh.tc tc⟩,?_,h0⟩,?_⟩
 ·rcases hM with hM | ⟨⟨s,hr⟩,hz⟩
  ·exact lay hl2 (.inl hM)
  ·refine Lay.more (B:=w.heap.size) ⟨hl2.room,hl2.nil,?_⟩ hg.size
   rcases hl2.rows with h0 | ⟨q,off,e,hq,hqg,hrr⟩
   ·exact .inl h0
   ·refine .inr ⟨q,off,e,hq,hqg,fun i hi=>?_⟩
    have hqB:q≠b:=by
     intro hqB
     subst hqB
     have h3:=hrr i hi 1 (.int .i64 (M.T i)) rfl
     rw[cell_of_row w q _ cur t fr hb] at h3
     have h4:=hz _ _ h3
     have:=right_at hr i hi
     omega
    exact fun j v hj=>(World.cell?_of_block (hg.block q hq (by simpa using hqB))).trans (hrr i hi j v hj)
 ·refine⟨⟨hs.lies.room,hs.lies.nil,fun hne=>?_⟩,hs.byte,hs.room⟩
  obtain⟨q,off,e,hq,hc⟩:=hs.lies.cells hne
  subst e
  have hqb:=ho.2 q off none _ _ c9
  exact⟨q,off,rfl,by have:=hg.size; omega,fun i hi=>(World.cell?_of_block (a:=⟨q,off+i,none⟩) (hg.block q hq (by simpa using hqb))).trans (hc i hi)⟩
theorem turn_loc{l:List Value}(hl:l.length=6)(hk:0 < k)(hb:V.b < w.heap.size)(hT:Sp.Turn w (V.tl l) A B Z k f w'):Loc w V w':=fun q o s k2 c2 e=>by
 obtain⟨⟨ao,cap,hx,hs⟩,_,hloc⟩:=hT
 have e3:=hx.c3
 rw[(tl_place V hl).1,(tl_place V hl).2] at e3
 rw[show V.o+6+3=V.o+9 by omega] at e3
 rw[e3] at e
 injection e with e
 injection e with e1 e2 e4
 obtain⟨b',off,e5,_⟩:=Sp.bytes_tab hs.lies hk
 rw[e5] at e1
 injection e1 with e1
 injection e1 with e1 e6 e7
 subst e1 e6 e7 e5
 rcases hloc b' off cap hx (by rw[(tl_place V hl).2]; exact hb) with h1 | ⟨cap',h1⟩
 ·exact .inl h1
 ·refine .inr ⟨k,cap',?_⟩
  have:=h1.c3
  rw[(tl_place V hl).1,(tl_place V hl).2] at this
  rw[show V.o+6+3=V.o+9 by omega] at this
  exact this
theorem put_v(h:HasVol w V n X M A B Z k f)(hkp:Rm.Kp w)(hok:Ok 23 X)(hm:TabOk M)(D:Nat→Int)(a c:Int)(hD:byt D)(hok2:Ok 23 (wRes n X M a D).2.1)(hm2:TabOk (wRes n X M a D).2.2) :
  Calls Tryz.prog 114 #[.pointer (some ⟨V.b,V.o,none⟩),.pointer (some ⟨V.b,V.o+4,none⟩),.agg (bl D).toArray,.int .i64 a,.int .i64 c] w
   fun e w'=>e=.returned (.tuple #[.agg (Pt.pV (pRes n X M D a c).p).toArray,.int .i64 (pRes n X M D a c).e])∧Tv w V n (pRes n X M D a c).X (pRes n X M D a c).M A B Z k f w':=by
 obtain⟨gen,kt,F,T⟩:=M
 obtain⟨ao,kc,hv,hd⟩:=h.disk
 refine(put_d (g:=V.hd (Vm.spC A B Z ao k kc)) hkp hok gen kt F T hv hm D a c hD hok2 hm2).mono ?_
 rintro e w' ⟨he,hg,hV⟩
 exact⟨he,hd w' _ _ hg hV,hg,Loc.same ((hasV_c9 hV).trans (hasV_c9 hv).symm)⟩
theorem get_v(h:HasVol w V n X M A B Z k f)(hkp:Rm.Kp w)(hok:Ok 23 X)(hm:TabOk M)(p:Pt.Pn)(hyA:byt (tV n X M p.A))(hyB:byt (tV n X M p.B)) :
  Calls Tryz.prog 77 #[.pointer (some ⟨V.b,V.o,none⟩),.pointer (some ⟨V.b,V.o+4,none⟩),.agg (Pt.pV p).toArray] w
   fun e w'=>e=.returned (.tuple #[.agg (bl (gRes n X M p).V).toArray,.int .i64 (gRes n X M p).h,.int .i64 (gRes n X M p).e])∧Tv w V n (gRes n X M p).X (gRes n X M p).M A B Z k f w':=by
 obtain⟨gen,kt,F,T⟩:=M
 obtain⟨ao,kc,hv,hd⟩:=h.disk
 refine(get_d (g:=V.hd (Vm.spC A B Z ao k kc)) hkp hok gen kt F T hv hm p hyA hyB).mono ?_
 rintro e w' ⟨he,hg,hV⟩
 exact⟨he,hd w' _ _ hg hV,hg,Loc.same ((hasV_c9 hV).trans (hasV_c9 hv).symm)⟩
theorem take_v(h:HasVol w V n X M A B Z k f)(hk:0 < k)(hB:Sp.i64 B)(x:Int) :
  Calls Tryz.prog 113 #[.pointer (some ⟨V.b,V.o+6,none⟩),.int .i64 x] w
   fun e w'=>e=.returned (.tuple #[.int .i64 (Sp.tkp A B Z k f x),.int .i64 (Sp.tkq A B Z k f x),.int .i64 (Sp.tkE A B Z k f x)])∧Tv w V n X M A B Z k (Sp.tkF A B Z k f x) w':=by
 obtain⟨l,ao,kc,hl,hb,hs,ht⟩:=h.space
 have:=Sp.Take_any (V.tl l) A B Z x ao k kc f w hb hB hs
 rw[(tl_place V hl).1,(tl_place V hl).2] at this
 exact this.mono fun e w' ⟨he,hT⟩=>⟨he,ht w' _ hT,hT.only,turn_loc hl hk h.lt hT⟩
theorem drop_v(h:HasVol w V n X M A B Z k f)(hk:0 < k)(hB:Sp.i64 B)(p:Pt.Pn)(hpA:Sp.i64 p.A)(hpB:Sp.i64 p.B) :
  Calls Tryz.prog 98 #[.pointer (some ⟨V.b,V.o+6,none⟩),.agg (Pt.pV p).toArray] w
   fun e w'=>e=.returned (.int .i64 (Sp.drE A B Z k f p))∧Tv w V n X M A B Z k (Sp.drF A B Z k f p) w':=by
 obtain⟨l,ao,kc,hl,hb,hs,ht⟩:=h.space
 have:=Sp.Drop_any (V.tl l) A B Z p ao k kc f w hb hB hs hpA hpB
 rw[(tl_place V hl).1,(tl_place V hl).2] at this
 exact this.mono fun e w' ⟨he,hT⟩=>⟨he,ht w' _ hT,hT.only,turn_loc hl hk h.lt hT⟩
end
end Vl
namespace Vl
open Go.RowKit Dk Gm Eqb Rm Vm Di
structure Wd(base:World)(V:Pl)(n:Nat)(X:Dst)(M:Tab)(X':Dst)(M':Tab)(A B Z:Int)(k:Nat)(f:Nat→Int)(T:TypeId)(old new:Array Value)(bc ba bs:Bool)(u:Value)(w':World):Prop where
 g:base.grownBy w' (some V.b)
 l:Loc base V w'
 p0:bc=false→HasVol w' V n X M A B Z k f
 p1:bc=true→HasVol w' V n X' M' A B Z k f
 al:ba=true→∃bk,u=.pointer (some ⟨bk,0,none⟩)∧base.heap.size≤bk∧Off w' V bk∧w'.heap[bk]?=some (.cells (if bs then new else old) T (0,0))
 or':bs=true→bc=true∧ba=true
section
variable {base:World}{V:Pl}{n:Nat}{X X':Dst}{M M':Tab}{A B Z:Int}{k:Nat}{f:Nat→Int}{T:TypeId}{old new:Array Value}{bc ba bs:Bool}{u:Value}{w' w'':World}
theorem Wd.start(h:HasVol base V n X M A B Z k f):Wd base V n X M X' M' A B Z k f T old new false false false u { base with drawn:=base.drawn+1 }:=
 ⟨⟨rfl,rfl,rfl,Nat.le_refl _,fun _ _ _=>rfl⟩,fun _ _ _ k c e=>.inr ⟨k,c,e⟩,fun _=>h.below ⟨rfl,rfl,rfl,Nat.le_refl _,fun _ _=>rfl⟩,(fun e=>by cases e),(fun e=>by cases e),(fun e=>by cases e)⟩
theorem Wd.call(h:Wd base V n X M X' M' A B Z k f T old new bc ba bs u w')(hc:bc=false)(ht:Tv w' V n X' M' A B Z k f w''):Wd base V n X M X' M' A B Z k f T old new true ba bs u w'':=by
 have hbs:bs=false:=by
  cases e:bs with
  | false=>rfl
  | true=>exact absurd (h.or' e).1 (by rw[hc]; decide)
 subst hbs
 refine⟨Dk.oT h.g ht.g,h.l.trans ht.l h.g.size,(fun e=>by cases e),fun _=>ht.v,fun e=>?_,(fun e=>by cases e)⟩
 obtain⟨bk,e1,h1,h2,h3⟩:=h.al e
 have hlt:=(Array.getElem?_eq_some_iff.1 h3).1
 exact⟨bk,e1,h1,h2.loc hlt ht.l,(ht.g.block bk hlt (by simpa using h2.1.symm)).trans h3⟩
theorem Wd.alloc(h:Wd base V n X M X' M' A B Z k f T old new bc ba bs u w')(ha:ba=false)(hk:0 < k):Wd base V n X M X' M' A B Z k f T old new bc true bs (.pointer (some ⟨w'.heap.size,0,none⟩)) (w'.alloc (.cells old T)):=by
 have hbs:bs=false:=by
  cases e:bs with
  | false=>rfl
  | true=>exact absurd (h.or' e).2 (by rw[ha]; decide)
 subst hbs
 have hb:Below w'.heap.size w' (w'.alloc (.cells old T)):=(Below.refl _ _).alloc (Nat.le_refl _) _
 have hv:V.b < w'.heap.size∧Off w' V w'.heap.size:=by
  cases e:bc with
  | false=>exact⟨(h.p0 e).lt,Off.new (h.p0 e) hk (Nat.le_refl _)⟩
  | true=>exact⟨(h.p1 e).lt,Off.new (h.p1 e) hk (Nat.le_refl _)⟩
 refine⟨Dk.oT h.g (Dk.oB hb),h.l.trans (Loc.below hb hv.1) h.g.size,fun e=>(h.p0 e).below hb,fun e=>(h.p1 e).below hb,fun _=>⟨w'.heap.size,rfl,h.g.size,?_,heap_alloc_new _ _⟩,(fun e=>by cases e)⟩
 refine⟨hv.2.1,fun q o s k c e=>hv.2.2 q o s k c ?_⟩
 rw[←e]
 exact(hb.cell hv.1).symm
theorem Wd.store{bk:Nat}(h:Wd base V n X M X' M' A B Z k f T old new true true false (.pointer (some ⟨bk,0,none⟩)) w')(hk:0 < k)(t1:T≠130)(t2:T≠108)
  (hM:M'.k=0∨((∃s,Rm.rightB s M'.gen M'.k M'.F M'.T=true)∧∀(i:Nat) (z:Int),old[i]?=some (.int .i64 z)→z < 8)):Wd base V n X M X' M' A B Z k f T old new true true true (.pointer (some ⟨bk,0,none⟩)) (w'.setRow bk new):=by
 obtain⟨bk',e1,h1,h2,h3⟩:=h.al rfl
 injection e1 with e1
 injection e1 with e1
 injection e1 with e1
 subst e1
 obtain⟨hf1,hf2⟩:=hasVol_only (h.p1 rfl) hk h2 h3 t1 t2 hM (gR new)
 exact⟨grown_only h.g h1 (gR _),h.l.trans (Loc.same (World.cell?_of_block (setRow_other _ _ _ _ h2.1))) h.g.size,(fun e=>by cases e),fun _=>hf1,fun _=>⟨bk,rfl,h1,hf2,setRow_heap _ _ _ _ _ _ h3⟩,fun _=>⟨rfl,rfl⟩⟩
theorem Wd.row{bk:Nat}(h:Wd base V n X M X' M' A B Z k f T old new bc ba bs (.pointer (some ⟨bk,0,none⟩)) w')(ha:ba=true)(hs:bs=false):w'.heap[bk]?=some (.cells old T (0,0)):=by
 obtain⟨bk',e1,h1,h2,h3⟩:=h.al ha
 injection e1 with e1
 injection e1 with e1
 injection e1 with e1
 subst e1
 rw[hs] at h3
 exact h3
theorem Off.below{b:Nat}{w:World}(h:Off w V b)(hV:V.b < w.heap.size)(hb:Below w.heap.size w w'):Off w' V b:=
 ⟨h.1,fun q o s k c e=>h.2 q o s k c (by rw[←e]; exact(hb.cell hV).symm)⟩
end
end Vl
end Go.Proofs.YteaocagepfgfnaaGreatDoor
