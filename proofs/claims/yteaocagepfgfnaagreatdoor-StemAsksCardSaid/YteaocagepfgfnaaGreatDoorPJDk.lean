import Derived.Test.YteaocagepfgfnaaGreatDoorPDkBase
import Derived.Deep.RegionHeld3
import Derived.Deep.DrawnRows
import Derived.Laws.Cover3
import Derived.Deep.RegionWith
import Derived.Deep.WholeRow
import Derived.Test.YteaocagepfgfnaaGreatDoorPAl
set_option maxRecDepth 100000
set_option maxHeartbeats 8000000
namespace Go.Proofs.YteaocagepfgfnaaGreatDoor
namespace Dk
open Go.RowKit
theorem eqlnil22(w:World)(a:Option Addr)(l c:Nat):(binOp .eql 31 (.slice a l c) (.slice none 0 0)).run Tryz.prog w=.ok (.bool a.isNone) w:=by
 simp only[binOp]
 simp[run_equal_slice_nil w _ _ a l c slice_sec]
theorem eqlnil23(w:World)(a:Option Addr)(l c:Nat):(binOp .eql 32 (.slice a l c) (.slice none 0 0)).run Tryz.prog w=.ok (.bool a.isNone) w:=by
 simp only[binOp]
 simp[run_equal_slice_nil w _ _ a l c slice_wr]
attribute [local go_sem] eqlnil22 eqlnil23
theorem maxLen_ge{n:Nat}(h:n≤140737488355328):n≤maxLen:=by unfold maxLen; omega
theorem cloneS_any(g:Nat)(ao:Option Addr)(n cap:Nat)(S:Nat→Sec)(w:World)(hl:Lay w w.heap.size g ao n cap 130 (fun i=>secV (S i)))(hn:n * 130≤140737488355328) :
  Calls Tryz.prog 169 #[.slice ao n cap] w fun e w'=>∃ao' cap',e=.returned (.slice ao' n cap')∧w'.ownsRow w.heap.size 130 130 (.slice ao' n cap') n (flat (fun i=>secV (S i)) n)∧Below w.heap.size w w':=by
 cases ao with
 | none=>
  have hc:=hl.nil rfl
  have h0:n=0:=by have:=hl.room; omega
  subst h0 hc
  clear hl hn
  go_enter Tryz.func169,Tryz.ntmps169
  go_wp2_with fail
  go_ret
  exact⟨none,0,rfl,World.ownsRow_nil _ _ _ _,Below.refl _ _⟩
 | some ad=>
  obtain⟨i0,hi,hz0,hz1,hz2⟩:=info_parts info_sec
  have HL:=Lib.hid hl
  clear hl
  go_enter Tryz.func169,Tryz.ntmps169
  go_wp2_with (at_builtin; go_loud (refine append_lay rfl (.tmp 5) (.tmp 6) 31 130 i0 _ 130 130 rfl slice_sec hi hz0 hz1 hz2 (by rw[show(Value.agg (secV sec0).toArray).cells=(secV sec0).toArray from rfl,List.size_toArray,secV_length]) (by omega) w.heap.size _ [] 0 rfl (World.ownsRow_lit w #[] 0 (Nat.le_refl _) (by decide) rfl) w.heap.size g (some ad) n cap (fun i=>secV (S i)) rfl (HL.out.keep fun b hb _=>Below.heap_alloc _ _ _ hb) (fun i _=>secV_length _) (fun i _=>secV_one _) (maxLen_ge (by omega)) (by omega) (by simp) ?_); intro v' w' hown hg)
  have hown':w'.ownsRow w.heap.size 130 130 v' n (flat (fun i=>secV (S i)) n):=by simpa using hown
  have hb:Below w.heap.size w w':=((Below.refl _ _).alloc (Nat.le_refl _) _).grown hg (by simp) (by
   intro k hk
   injection hk with hk
   subst hk
   exact Nat.le_refl _)
  obtain⟨ao',cap',rfl⟩:∃ao' cap',v'=.slice ao' n cap':=by
   rcases hown'.2 with ⟨hv,hn0⟩ | ⟨b,cap',cur,hv,_⟩
   ·exact⟨none,0,by rw[hv,hn0]⟩
   ·exact⟨_,cap',hv⟩
  go_ret
  exact⟨ao',cap',rfl,hown',hb⟩
theorem cloneC_any(g:Nat)(ao:Option Addr)(n cap:Nat)(C:Nat→Wr)(w:World)(hl:Lay w w.heap.size g ao n cap 129 (fun i=>wrV (C i)))(hn:n * 136≤140737488355328) :
  Calls Tryz.prog 170 #[.slice ao n cap] w fun e w'=>∃ao' cap',e=.returned (.slice ao' n cap')∧w'.ownsRow w.heap.size 108 129 (.slice ao' n cap') n (flat (fun i=>wrV (C i)) n)∧Below w.heap.size w w':=by
 cases ao with
 | none=>
  have hc:=hl.nil rfl
  have h0:n=0:=by have:=hl.room; omega
  subst h0 hc
  clear hl hn
  go_enter Tryz.func170,Tryz.ntmps170
  go_wp2_with fail
  go_ret
  exact⟨none,0,rfl,World.ownsRow_nil _ _ _ _,Below.refl _ _⟩
 | some ad=>
  obtain⟨i0,hi,hz0,hz1,hz2⟩:=info_parts info_wr
  have HL:=Lib.hid hl
  clear hl
  go_enter Tryz.func170,Tryz.ntmps170
  go_wp2_with (at_builtin; go_loud (refine append_lay rfl (.tmp 5) (.tmp 6) 32 108 i0 _ 129 136 rfl slice_wr hi hz0 hz1 hz2 (by rw[show(Value.agg (wrV wr0).toArray).cells=(wrV wr0).toArray from rfl,List.size_toArray,wrV_length]) (by omega) w.heap.size _ [] 0 rfl (World.ownsRow_lit w #[] 0 (Nat.le_refl _) (by decide) rfl) w.heap.size g (some ad) n cap (fun i=>wrV (C i)) rfl (HL.out.keep fun b hb _=>Below.heap_alloc _ _ _ hb) (fun i _=>wrV_length _) (fun i _=>wrV_one _) (maxLen_ge (by omega)) (by omega) (by simp) ?_); intro v' w' hown hg)
  have hown':w'.ownsRow w.heap.size 108 129 v' n (flat (fun i=>wrV (C i)) n):=by simpa using hown
  have hb:Below w.heap.size w w':=((Below.refl _ _).alloc (Nat.le_refl _) _).grown hg (by simp) (by
   intro k hk
   injection hk with hk
   subst hk
   exact Nat.le_refl _)
  obtain⟨ao',cap',rfl⟩:∃ao' cap',v'=.slice ao' n cap':=by
   rcases hown'.2 with ⟨hv,hn0⟩ | ⟨b,cap',cur,hv,_⟩
   ·exact⟨none,0,by rw[hv,hn0]⟩
   ·exact⟨_,cap',hv⟩
  go_ret
  exact⟨ao',cap',rfl,hown',hb⟩
structure Has(w:World)(g:Pl)(sa ca:Option Addr)(n sc m cc:Nat)(S:Nat→Sec)(C:Nat→Wr)(f:Int)(d:Bool):Prop where
 bx:Bx w g (.slice sa n sc) (.slice ca m cc) (.int .i64 f) (.bool d)
 ss:Lay w w.heap.size g sa n sc 130 (fun i=>secV (S i))
 cs:Lay w w.heap.size g ca m cc 129 (fun i=>wrV (C i))
 nb:n * 130≤140737488355328
 mb:m * 136≤140737488355328
 ts:Ty w n sa 130
 tc:Ty w m ca 108
structure Mine(w:World)(B:Nat)(g:Pl)(sa ca:Option Addr)(n sc m cc:Nat)(S:Nat→Sec)(C:Nat→Wr)(f:Int)(d:Bool):Prop where
 bx:Bx w g (.slice sa n sc) (.slice ca m cc) (.int .i64 f) (.bool d)
 ss:w.ownsRow B 130 130 (.slice sa n sc) n (flat (fun i=>secV (S i)) n)
 cs:w.ownsRow B 108 129 (.slice ca m cc) m (flat (fun i=>wrV (C i)) m)
 far:g < B
theorem Mine.has{w:World}{B:Nat}{g:Pl}{sa ca:Option Addr}{n sc m cc:Nat}{S:Nat→Sec}{C:Nat→Wr}{f:Int}{d:Bool}(h:Mine w B g sa ca n sc m cc S C f d)(nb:n * 130≤140737488355328)(mb:m * 136≤140737488355328):Has w g sa ca n sc m cc S C f d:=
 ⟨h.bx,lay_own (fun _i _=>secV_length _) h.ss (.inl h.far),lay_own (fun _i _=>wrV_length _) h.cs (.inl h.far),nb,mb,.own h.ss,.own h.cs⟩
theorem owns_put{w:World}{B g:Nat}{e:TypeId}{k n:Nat}{v:Value}{xs:List Value}(h:w.ownsRow B e k v n xs)(hg:g < B)(j:Nat)(u:Value):(w.setCell ⟨g,j,none⟩ u).ownsRow B e k v n xs:=
 h.kept (row:=some g) ⟨rfl,rfl,rfl,by simp,fun i _ hr=>Below.heap_setCell _ _ _ _ (by rintro rfl; exact hr rfl)⟩ (by
  cases e:v.ownBlock with
  | none=>exact .inl rfl
  | some b=>exact .inr fun hb=>by injection hb with hb; have:=(h.lt b e).1; omega)
theorem owns_mono{w:World}{B B':Nat}{e:TypeId}{k n:Nat}{v:Value}{xs:List Value}(h:w.ownsRow B e k v n xs)(hb:B'≤B):w.ownsRow B' e k v n xs:=
 ⟨h.1,h.2.imp id fun⟨g,cap,cur,hv,hg,r⟩=>⟨g,cap,cur,hv,Nat.le_trans hb hg,r⟩⟩
theorem owns_below{w w':World}{B:Nat}{e:TypeId}{k n:Nat}{v:Value}{xs:List Value}(h:w.ownsRow B e k v n xs)(hb:Below w.heap.size w w'):w'.ownsRow B e k v n xs:=
 h.kept (row:=none) ⟨hb.os,hb.tape,hb.output,hb.size,fun i hi _=>hb.block i hi⟩ (by
  cases e:v.ownBlock with
  | none=>exact .inl rfl
  | some b=>exact .inr (by simp))
theorem undrew{B:Nat}{w w1:World}(h:Below B w.drew w1):Below B w w1:=⟨h.os,h.tape,h.output,h.size,h.block⟩
theorem only_put(w:World)(g j:Nat)(u:Value):w.grownBy (w.setCell ⟨g,j,none⟩ u) (some g):=⟨rfl,rfl,rfl,by simp,fun i _ hr=>Below.heap_setCell _ _ _ _ (by rintro rfl; exact hr rfl)⟩
theorem oT{g:Nat}{a w w':World}(h:a.grownBy w (some g))(k:w.grownBy w' (some g)):a.grownBy w' (some g):=
 ⟨k.os.trans h.os,k.tape.trans h.tape,k.output.trans h.output,Nat.le_trans h.size k.size,fun i hi hr=>(k.block i (by have:=h.size; omega) hr).trans (h.block i hi hr)⟩
theorem oB{g:Nat}{w w':World}(h:Below w.heap.size w w'):w.grownBy w' (some g):=⟨h.os,h.tape,h.output,h.size,fun i hi _=>h.block i hi⟩
theorem renewed{g:Pl}{sa ca:Option Addr}{n sc m cc:Nat}{S:Nat→Sec}{C:Nat→Wr}{f:Int}{d:Bool}{w w1 w2:World}{sa1 ca2:Option Addr}{sc1 cc2:Nat}(h:Has w g sa ca n sc m cc S C f d)
  (hb1:Below w.heap.size w w1) (hs1:w1.ownsRow w.heap.size 130 130 (.slice sa1 n sc1) n (flat (fun i=>secV (S i)) n))
  (hb2:Below w1.heap.size w1 w2) (hs2:w2.ownsRow w1.heap.size 108 129 (.slice ca2 m cc2) m (flat (fun i=>wrV (C i)) m)) :
  w.grownBy ((w2.setCell ⟨g.b,g.o,none⟩ (.slice sa1 n sc1)).setCell ⟨g.b,g.o+1,none⟩ (.slice ca2 m cc2)) (some g.b)∧
  ∃sa' sc' ca' cc',Mine ((w2.setCell ⟨g.b,g.o,none⟩ (.slice sa1 n sc1)).setCell ⟨g.b,g.o+1,none⟩ (.slice ca2 m cc2)) w.heap.size g sa' ca' n sc' m cc' S C f d:=by
 have hlt:=h.bx.lt
 have hb:Below w.heap.size w w2:=hb1.trans (hb2.mono hb1.size)
 refine⟨oT (oT (oB hb) (only_put _ _ _ _)) (only_put _ _ _ _),sa1,sc1,ca2,cc2,((h.bx.below hb).s0 _).s1 _,owns_put (owns_put (owns_below hs1 hb2) hlt _ _) hlt _ _,?_,hlt⟩
 have:=hb1.size
 exact owns_put (owns_put (owns_mono hs2 this) hlt _ _) hlt _ _
theorem renew_any(g:Pl)(sa ca:Option Addr)(n sc m cc:Nat)(S:Nat→Sec)(C:Nat→Wr)(f:Int)(d:Bool)(w:World)(h:Has w g sa ca n sc m cc S C f d) :
  Calls Tryz.prog 152 #[.pointer (some ⟨g.b,g.o,none⟩)] w fun e w'=>(∃v,e=.returned v)∧w.grownBy w' (some g.b)∧∃sa' sc' ca' cc',Mine w' w.heap.size g sa' ca' n sc' m cc' S C f d:=by
 have HH:=Lib.hid h
 have hg:=h.bx.lt
 have d0:=h.bx.c0
 have d1:=h.bx.c1
 have f0:=h.bx.fr g.o
 have f1:=h.bx.fr (g.o+1)
 have hnb:=h.nb
 have hmb:=h.mb
 clear h
 go_enter Tryz.func152,Tryz.ntmps152
 go_wp2_with fail
 go_region_with (first
   | ((go_at_call 169; refine(cloneS_any g sa n sc S _ (by exact HH.out.ss.keep fun _ _ _=>rfl) (by omega)).mono ?_; rintro _ w1 ⟨sa1,sc1,rfl,hs1,hb1⟩; have k0:=(hb1.cell (p:=⟨g.b,g.o,none⟩) hg).trans d0; have k1:=(hb1.cell (p:=⟨g.b,g.o+1,none⟩) hg).trans d1; have hg1:g < w1.heap.size:=Nat.lt_of_lt_of_le hg hb1.size; have j0:=(hb1.frozen (p:=⟨g.b,g.o,none⟩) hg).trans f0; have j1:=(hb1.frozen (p:=⟨g.b,g.o+1,none⟩) hg).trans f1))
   | ((go_at_call 170; refine(cloneC_any g ca m cc C _ (by exact(HH.out.cs.keep (w':=w1) fun b hb _=>hb1.block b hb).more hb1.size) (by omega)).mono ?_; rintro _ w2 ⟨ca2,cc2,rfl,hs2,hb2⟩; have l0:=(hb2.cell (p:=⟨g.b,g.o,none⟩) hg1).trans k0; have l1:=(hb2.cell (p:=⟨g.b,g.o+1,none⟩) hg1).trans k1; have m0:=(hb2.frozen (p:=⟨g.b,g.o,none⟩) hg1).trans j0; have m1:=(hb2.frozen (p:=⟨g.b,g.o+1,none⟩) hg1).trans j1)))
 all_goals
  go_wp2_with fail
  go_end0
  first | exact⟨⟨_,rfl⟩,renewed HH.out hb1 hs1 hb2 hs2⟩ | exact⟨⟨_,rfl⟩,renewed HH.out (undrew hb1) hs1 hb2 hs2⟩
end Dk
namespace Dk
open Go.RowKit
def actE(f:Int)(d:Bool):Int:=if d=true∨f=0 then 3 else 0
def actF(f:Int)(d:Bool):Int:=if d=true then f else if 0 < f then f - 1 else f
def actD(f:Int)(d:Bool):Bool:=d || decide (f=0)
def Turns(w:World)(g:Pl)(E:Int)(n m:Nat)(S:Nat→Sec)(C:Nat→Wr)(f:Int)(d:Bool)(e:Ending)(w':World):Prop:=
 e=.returned (.int .i64 E)∧w.grownBy w' (some g.b)∧∃sa sc ca cc,Has w' g sa ca n sc m cc S C f d
theorem Has.turn{w w':World}{g:Pl}{sa ca:Option Addr}{n sc m cc:Nat}{S:Nat→Sec}{C:Nat→Wr}{f:Int}{d:Bool}{f':Int}{d':Bool}(h:Has w g sa ca n sc m cc S C f d)(hg:w.grownBy w' (some g.b))(hx:Bx w' g (.slice sa n sc) (.slice ca m cc) (.int .i64 f') (.bool d')):Has w' g sa ca n sc m cc S C f' d':=
 ⟨hx,(h.ss.grown hg (Nat.le_refl _)).more hg.size,(h.cs.grown hg (Nat.le_refl _)).more hg.size,h.nb,h.mb,h.ts.grown h.ss hg (Nat.le_refl _),h.tc.grown h.cs hg (Nat.le_refl _)⟩
theorem Mine.turn{w w':World}{B:Nat}{g:Pl}{sa ca:Option Addr}{n sc m cc:Nat}{S:Nat→Sec}{C:Nat→Wr}{f:Int}{d:Bool}{f':Int}{d':Bool}(h:Mine w B g sa ca n sc m cc S C f d)(hg:w.grownBy w' (some g.b))(hx:Bx w' g (.slice sa n sc) (.slice ca m cc) (.int .i64 f') (.bool d')):Mine w' B g sa ca n sc m cc S C f' d':=
 ⟨hx,h.ss.kept hg (by cases e:(Value.slice sa n sc).ownBlock with
  | none=>exact .inl rfl
  | some b=>exact .inr fun hb=>by injection hb with hb; have:=(h.ss.lt b e).1; have:=h.far; omega),h.cs.kept hg (by cases e:(Value.slice ca m cc).ownBlock with
  | none=>exact .inl rfl
  | some b=>exact .inr fun hb=>by injection hb with hb; have:=(h.cs.lt b e).1; have:=h.far; omega),h.far⟩
def Acts(w:World)(g:Pl)(n m:Nat)(S:Nat→Sec)(C:Nat→Wr)(f:Int)(d:Bool)(e:Ending)(w':World):Prop:=
 e=.returned (.int .i64 (actE f d))∧w.grownBy w' (some g.b)∧(∃sa sc ca cc,Has w' g sa ca n sc m cc S C (actF f d) (actD f d))∧(actE f d=0→∃sa sc ca cc,Mine w' w.heap.size g sa ca n sc m cc S C (actF f d) (actD f d))
theorem act_any(g:Pl)(sa ca:Option Addr)(n sc m cc:Nat)(S:Nat→Sec)(C:Nat→Wr)(f:Int)(d:Bool)(w:World)(h:Has w g sa ca n sc m cc S C f d)(hf:-9223372036854775808≤f∧f≤9223372036854775807) :
  Calls Tryz.prog 122 #[.pointer (some ⟨g.b,g.o,none⟩)] w (Acts w g n m S C f d):=by
 have HH:=Lib.hid h
 have d3:=h.bx.c3
 clear h
 obtain⟨hf0,hf1⟩:=hf
 cases d with
 | true=>
  have e1:actE f true=3:=rfl
  have e2:actF f true=f:=rfl
  have e3:actD f true=true:=rfl
  unfold Acts
  rw[e1,e2,e3]
  go_enter Tryz.func122,Tryz.ntmps122
  go_wp2_with fail
  go_ret
  exact⟨rfl,World.grownBy.refl _ _,⟨sa,sc,ca,cc,HH.out⟩,fun h=>by cases h⟩
 | false=>
  have hr:=renew_any g sa ca n sc m cc S C f false w HH.out
  have nb:=HH.out.nb
  have mb:=HH.out.mb
  clear HH
  rcases (show f=0∨(f≠0∧0 < f)∨(f≠0∧f < 0) by omega) with hz | ⟨hz,hp⟩ | ⟨hz,hp⟩
  ·have e1:actE f false=3:=by unfold actE; rw[if_pos (.inr hz)]
   have e2:actF f false=f:=by unfold actF; rw[if_neg (by simp),if_neg (by omega)]
   have e3:actD f false=true:=by unfold actD; rw[decide_eq_true hz]; rfl
   unfold Acts
   rw[e1,e2,e3]
   clear e1 e2 e3
   subst hz
   go_enter Tryz.func122,Tryz.ntmps122
   go_wp2_with fail
   refine hr.mono ?_
   rintro _ w1 ⟨⟨v,rfl⟩,hg,sa',sc',ca',cc',hM⟩
   have c2:=hM.bx.c2
   have c3:=hM.bx.c3
   have k3:=hM.bx.fr (g.o+3)
   dsimp only
   go_wp2_with fail
   go_ret
   exact⟨rfl,oT hg (only_put _ _ _ _),⟨sa',sc',ca',cc',(hM.turn (only_put _ _ _ _) (hM.bx.s3 _)).has nb mb⟩,fun h=>by cases h⟩
  ·have e1:actE f false=0:=by unfold actE; rw[if_neg (by simp[hz])]
   have e2:actF f false=f - 1:=by unfold actF; rw[if_neg (by simp),if_pos hp]
   have e3:actD f false=false:=by unfold actD; rw[decide_eq_false hz]; rfl
   unfold Acts
   rw[e1,e2,e3]
   clear e1 e2 e3
   have hz':(f == 0)=false:=by simpa using hz
   clear hz
   go_enter Tryz.func122,Tryz.ntmps122
   go_wp2_with fail
   refine hr.mono ?_
   rintro _ w1 ⟨⟨v,rfl⟩,hg,sa',sc',ca',cc',hM⟩
   have c2:=hM.bx.c2
   have c3:=hM.bx.c3
   have k2:=hM.bx.fr (g.o+2)
   dsimp only
   go_wp2_with fail
   go_ret
   have hN:=hM.turn (only_put _ _ _ _) (hM.bx.s2 (.int .i64 (f - 1)))
   exact⟨rfl,oT hg (only_put _ _ _ _),⟨sa',sc',ca',cc',hN.has nb mb⟩,fun _=>⟨sa',sc',ca',cc',hN⟩⟩
  ·have e1:actE f false=0:=by unfold actE; rw[if_neg (by simp[hz])]
   have e2:actF f false=f:=by unfold actF; rw[if_neg (by simp),if_neg (by omega)]
   have e3:actD f false=false:=by unfold actD; rw[decide_eq_false hz]; rfl
   unfold Acts
   rw[e1,e2,e3]
   clear e1 e2 e3
   have hz':(f == 0)=false:=by simpa using hz
   clear hz
   go_enter Tryz.func122,Tryz.ntmps122
   go_wp2_with fail
   refine hr.mono ?_
   rintro _ w1 ⟨⟨v,rfl⟩,hg,sa',sc',ca',cc',hM⟩
   have c2:=hM.bx.c2
   have c3:=hM.bx.c3
   dsimp only
   go_wp2_with fail
   go_ret
   exact⟨rfl,hg,⟨sa',sc',ca',cc',hM.has nb mb⟩,fun _=>⟨sa',sc',ca',cc',hM⟩⟩
end Dk
namespace Dk
open Go.RowKit
theorem Has.below{w w':World}{g:Pl}{sa ca:Option Addr}{n sc m cc:Nat}{S:Nat→Sec}{C:Nat→Wr}{f:Int}{d:Bool}(h:Has w g sa ca n sc m cc S C f d)(hb:Below w.heap.size w w'):Has w' g sa ca n sc m cc S C f d:=
 h.turn (oB hb) (h.bx.below hb)
theorem Has.n47{w:World}{g:Pl}{sa ca:Option Addr}{n sc m cc:Nat}{S:Nat→Sec}{C:Nat→Wr}{f:Int}{d:Bool}(h:Has w g sa ca n sc m cc S C f d):n≤140737488355328∧m≤140737488355328:=by
 have:=h.nb
 have:=h.mb
 omega
theorem Has.formed{w:World}{g:Pl}{sa ca:Option Addr}{n sc m cc:Nat}{S:Nat→Sec}{C:Nat→Wr}{f:Int}{d:Bool}(h:Has w g sa ca n sc m cc S C f d) :
  Calls Tryz.prog 120 #[.pointer (some ⟨g.b,g.o,none⟩)] w fun e w'=>e=.returned (.bool (formedB n m C))∧Below w.heap.size w w':=
 formed_any g sa ca n sc m cc C f d w h.bx h.n47.1 h.n47.2 h.cs
end Dk
namespace Dk
open Go.RowKit
theorem zv65(w:World):(zeroValue 108).run Tryz.prog w=.ok (.agg (wrV wr0).toArray) w:=(zero_of_info (P:=Tryz.prog) (t:=108) (v:=.agg (wrV wr0).toArray) (n:=129) (by kernel_rfl)).1 w
theorem zv29(w:World):(zeroValue 47).run Tryz.prog w=.ok (.agg (bl fun _=>0).toArray) w:=(zero_of_info (P:=Tryz.prog) (t:=47) (v:=.agg (bl fun _=>0).toArray) (n:=128) (by kernel_rfl)).1 w
attribute [local go_sem] zv65 zv29
theorem zc29:Tryz.zeroCells47=(bl fun _=>0).toArray:=by kernel_rfl
theorem und29:Tryz.prog.underlying 47=some (.array 128 5):=by kernel_rfl
structure Near(B g:Nat)(w w':World):Prop where
 os:w'.os=w.os
 tape:w'.tape=w.tape
 output:w'.output=w.output
 size:w.heap.size≤w'.heap.size
 block:∀k,k < B→k≠g→w'.heap[k]?=w.heap[k]?
theorem Near.refl(B g:Nat)(w:World):Near B g w w:=⟨rfl,rfl,rfl,Nat.le_refl _,fun _ _ _=>rfl⟩
theorem Near.trans{B g:Nat}{a b c:World}(h:Near B g a b)(k:Near B g b c):Near B g a c:=
 ⟨k.os.trans h.os,k.tape.trans h.tape,k.output.trans h.output,Nat.le_trans h.size k.size,fun i hi hn=>(k.block i hi hn).trans (h.block i hi hn)⟩
theorem Near.of_below{B g:Nat}{w w':World}(h:Below w.heap.size w w')(hB:B≤w.heap.size):Near B g w w':=⟨h.os,h.tape,h.output,h.size,fun i hi _=>h.block i (by omega)⟩
theorem Near.only{g:Nat}{a w w':World}(h:a.grownBy w (some g))(k:Near a.heap.size g w w'):a.grownBy w' (some g):=
 ⟨k.os.trans h.os,k.tape.trans h.tape,k.output.trans h.output,Nat.le_trans h.size k.size,fun i hi hr=>(k.block i hi (by simpa using hr)).trans (h.block i hi hr)⟩
theorem size_setCells(b:Nat):∀(vs:List Value) (o:Nat) (w:World),(w.setCells b o vs).heap.size=w.heap.size
 | [],_,_=>rfl
 | v :: r,o,w=>by rw[World.setCells,size_setCells b r]; simp
theorem block_setCells(b k:Nat)(h:k≠b):∀(vs:List Value) (o:Nat) (w:World),(w.setCells b o vs).heap[k]?=w.heap[k]?
 | [],_,_=>rfl
 | v :: r,o,w=>by rw[World.setCells,block_setCells b k h r,Below.heap_setCell _ _ _ _ h]
theorem flags_setCells(b:Nat):∀(vs:List Value) (o:Nat) (w:World),(w.setCells b o vs).os=w.os∧(w.setCells b o vs).tape=w.tape∧(w.setCells b o vs).output=w.output
 | [],_,_=>⟨rfl,rfl,rfl⟩
 | v :: r,o,w=>flags_setCells b r (o+1) (w.setCell ⟨b,o,none⟩ v)
theorem Near.setCells{B g:Nat}{a w:World}(h:Near B g a w){b:Nat}(hb:B≤b)(o:Nat)(vs:List Value):Near B g a (w.setCells b o vs):=by
 obtain⟨h1,h2,h3⟩:=flags_setCells b vs o w
 exact⟨h1.trans h.os,h2.trans h.tape,h3.trans h.output,by rw[size_setCells]; exact h.size,fun k hk hn=>(block_setCells b k (by omega) vs o w).trans (h.block k hk hn)⟩
theorem Near.setCell{B g:Nat}{a w:World}(h:Near B g a w){b:Nat}(hb:B≤b)(o:Nat)(v:Value):Near B g a (w.setCell ⟨b,o,none⟩ v):=h.setCells hb o [v]
theorem Near.put{B g:Nat}{a w:World}(h:Near B g a w)(o:Nat)(v:Value):Near B g a (w.setCell ⟨g,o,none⟩ v):=
 ⟨h.os,h.tape,h.output,by simpa using h.size,fun k hk hn=>(Below.heap_setCell _ _ _ _ hn).trans (h.block k hk hn)⟩
structure Rw(w:World)(b n:Nat)(S:Nat→Sec):Prop where
 rows:∀i,i < n→w.rangeAt b (i * 130) (secV (S i))
 free:∀j,w.frozen? ⟨b,j,none⟩=false
 ty:∃cur,w.heap[b]?=some (.cells cur 130 (0,0))
theorem ty_setCell{w:World}{b:Nat}{t:TypeId}(h:∃cur,w.heap[b]?=some (.cells cur t (0,0)))(q o:Nat)(v:Value):∃cur,(w.setCell ⟨q,o,none⟩ v).heap[b]?=some (.cells cur t (0,0)):=by
 obtain⟨cur,hc⟩:=h
 by_cases e:b=q
 ·subst e
  exact⟨_,heap_setCell_same w b o _ _ v hc⟩
 ·exact⟨cur,(Below.heap_setCell _ _ _ _ e).trans hc⟩
theorem ty_setCells{b:Nat}{t:TypeId}(q:Nat):∀(vs:List Value) (o:Nat) (w:World),(∃cur,w.heap[b]?=some (.cells cur t (0,0)))→∃cur,(w.setCells q o vs).heap[b]?=some (.cells cur t (0,0))
 | [],_,_,h=>h
 | v :: r,o,w,h=>by rw[World.setCells]; exact ty_setCells q r _ _ (ty_setCell h q o v)
theorem Rw.block{w w':World}{b n:Nat}{S:Nat→Sec}(h:Rw w b n S)(hb:w'.heap[b]?=w.heap[b]?):Rw w' b n S:=
 ⟨fun i hi j v hv=>(World.cell?_of_block (w:=w) hb).trans (h.rows i hi j v hv),fun j=>(World.frozen?_of_block (w:=w) hb).trans (h.free j),by rw[hb]; exact h.ty⟩
theorem Rw.lt{w:World}{b n:Nat}{S:Nat→Sec}(h:Rw w b n S)(hn:0 < n):b < w.heap.size:=World.block_lt_of_cell? w _ (h.rows 0 hn 128 _ (secV_read _))
theorem Rw.there{w:World}{b n:Nat}{S:Nat→Sec}(h:Rw w b n S){i o k:Nat}(hi:i < n)(hk:o+k≤130):w.there b (i * 130+o) k:=fun j hj=>by
 refine⟨?_,h.free _⟩
 have hl:o+j < (secV (S i)).length:=by rw[secV_length]; omega
 rw[Nat.add_assoc,h.rows i hi (o+j) _ (List.getElem?_eq_getElem hl)]
 rfl
def upd(S:Nat→Sec)(p:Nat)(s:Sec)(i:Nat):Sec:=if i=p then s else S i
theorem range_setCell_same{w:World}{b o j:Nat}{cs:List Value}(h:w.rangeAt b o cs)(hj:j < cs.length)(v:Value):(w.setCell ⟨b,o+j,none⟩ v).rangeAt b o (cs.set j v):=fun i u hu=>by
 have hi:i < cs.length:=by
  have:=(List.getElem?_eq_some_iff.1 hu).1
  simpa using this
 by_cases e:i=j
 ·subst e
  rw[World.cell?_setCell_same _ _ _ (h i _ (List.getElem?_eq_getElem hi)),←hu]
  simp[hi]
 ·rw[World.cell?_setCell_other _ _ _ _ (by intro h; injection h with _ h; omega)]
  rw[List.getElem?_set_ne (Ne.symm e)] at hu
  exact h i u hu
theorem range_setCell_out{w:World}{b o o':Nat}{cs:List Value}(h:w.rangeAt b o cs)(ho:o' < o∨o+cs.length≤o')(v:Value):(w.setCell ⟨b,o',none⟩ v).rangeAt b o cs:=fun i u hu=>by
 have hi:=(List.getElem?_eq_some_iff.1 hu).1
 rw[World.cell?_setCell_other _ _ _ _ (by intro h; injection h with _ h; omega)]
 exact h i u hu
theorem Rw.write{w:World}{b n:Nat}{S:Nat→Sec}(h:Rw w b n S){p:Nat}(hp:p < n)(F:Nat→Int):Rw ((w.setCells b (p * 130) (bl F)).setCell ⟨b,p * 130+128,none⟩ (.bool false)) b n (upd S p ⟨F,false,(S p).noWrite⟩):=by
 refine⟨fun i hi=>?_,fun j=>by rw[World.frozen?_setCell,World.frozen?_setCells]; exact h.free j,ty_setCell (ty_setCells _ _ _ _ h.ty) _ _ _⟩
 unfold upd
 by_cases e:i=p
 ·subst e
  rw[if_pos rfl]
  have h0:(w.setCells b (i * 130) (bl F)).rangeAt b (i * 130) (secV ⟨F,(S i).noRead,(S i).noWrite⟩):=fun j v hv=>by
   by_cases hj:j < 128
   ·have hv1:(bl F)[j]?=some v:=(bl_get F hj).trans ((secV_data ⟨F,(S i).noRead,(S i).noWrite⟩ hj).symm.trans hv)
    have ht:w.there b (i * 130) (bl F).length:=by
     have:=h.there hi (o:=0) (k:=128) (by omega)
     rw[bL]
     rwa [Nat.add_zero] at this
    clear hv
    generalize bl F=L at hv1 ht ⊢
    exact World.rangeAt_setCells_same w b (i * 130) L ht j v hv1
   ·have hl:j < 130:=by
     have:=(List.getElem?_eq_some_iff.1 hv).1
     rwa [secV_length] at this
    rw[World.cell?_setCells_out b _ _ w _ (fun _ _=>.inr (by rw[bL]; show i * 130+128≤i * 130+j; omega))]
    refine h.rows i hi j v ?_
    rcases (show j=128∨j=129 by omega) with rfl | rfl
    ·rw[secV_read] at hv ⊢; exact hv
    ·rw[secV_write] at hv ⊢; exact hv
  have h1:=range_setCell_same h0 (j:=128) (by rw[secV_length]; omega) (.bool false)
  have e1:(secV ⟨F,(S i).noRead,(S i).noWrite⟩).set 128 (.bool false)=secV ⟨F,false,(S i).noWrite⟩:=by
   unfold secV
   rw[List.set_append_right _ _ (by rw[bL]; exact Nat.le_refl _),bL]
   rfl
  rwa [e1] at h1
 ·rw[if_neg e]
  have hne:i * 130+130≤p * 130∨p * 130+130≤i * 130:=by omega
  refine range_setCell_out (World.rangeAt_setCells_apart (h.rows i hi) b (p * 130) (bl F) ?_) ?_ _
  ·rw[secV_length,bL]
   exact .inr (by omega)
  ·rw[secV_length]
   omega
def stS(S:Nat→Sec)(C:Nat→Wr)(kp:Nat→Bool):Nat→Nat→Sec
 | 0=>S
 | j+1=>if kp j then upd (stS S C kp j) (C j).place.toNat ⟨(C j).data,false,(stS S C kp j (C j).place.toNat).noWrite⟩ else stS S C kp j
theorem wr_range(x:Wr){w:World}{q o:Nat}(h:w.rangeAt q o (wrV x)):w.rangeAt q (o+1) (bl x.data):=fun j v hv=>by
 have:=h (1+j) v (by unfold wrV; rw[Nat.add_comm 1 j]; exact hv)
 rwa [←Nat.add_assoc] at this
structure Rd(B:Nat)(g:Pl)(b q qo n m:Nat)(v0 v1 v2 v3:Value)(S:Nat→Sec)(C:Nat→Wr)(w wr:World):Prop where
 bx:Bx wr g v0 v1 v2 v3
 rows:Rw wr b n S
 cache:∀i,i < m→wr.rangeAt q (qo+i * 129) (wrV (C i))
 near:Near B g w wr
theorem Rd.below{B:Nat}{g:Pl}{b q qo n m:Nat}{v0 v1 v2 v3:Value}{S:Nat→Sec}{C:Nat→Wr}{w wr wr':World}(h:Rd B g b q qo n m v0 v1 v2 v3 S C w wr)(hb:Below wr.heap.size wr wr')(hn:0 < n)(hB:B≤w.heap.size):Rd B g b q qo n m v0 v1 v2 v3 S C w wr':=
 ⟨h.bx.below hb,h.rows.block (hb.block b (h.rows.lt hn)),fun i hi j v hv=>(hb.cell (World.block_lt_of_cell? wr _ (h.cache i hi j v hv))).trans (h.cache i hi j v hv),h.near.trans (.of_below hb (by have:=h.near.size; omega))⟩
theorem Rd.write{B:Nat}{g:Pl}{b q qo n m:Nat}{v0 v1 v2 v3:Value}{S:Nat→Sec}{C:Nat→Wr}{w wr:World}(h:Rd B g b q qo n m v0 v1 v2 v3 S C w wr){p:Nat}(hp:p < n)(F:Nat→Int)(hgb:g≠b)(hqb:q≠b)(hB:B≤b) :
  Rd B g b q qo n m v0 v1 v2 v3 (upd S p ⟨F,false,(S p).noWrite⟩) C w ((wr.setCells b (p * 130) (bl F)).setCell ⟨b,p * 130+128,none⟩ (.bool false)):=
 ⟨h.bx.block (by rw[Below.heap_setCell _ _ _ _ hgb,block_setCells b g hgb]),h.rows.write hp F,
  fun i hi=>World.rangeAt_setCells_apart (World.rangeAt_setCells_apart (h.cache i hi) b _ _ (.inl hqb)) b _ [.bool false] (.inl hqb),(h.near.setCells hB _ _).setCell hB _ _⟩
theorem flush1_any(i:Nat)(w:World):Calls Tryz.prog 124 #[.int .i64 i] w fun e w'=>e=.returned (.bool true)∧w=w':=by
 go_enter Tryz.func124,Tryz.ntmps124
 go_wp2_with fail
 go_ret
 exact⟨rfl,rfl⟩
end Dk
namespace Dk
open Go.RowKit
attribute [local go_sem] zv65 zv29
theorem range_other{w:World}{b o:Nat}{cs:List Value}(h:w.rangeAt b o cs){g:Nat}(hg:g≠b)(j:Nat)(v:Value):(w.setCell ⟨g,j,none⟩ v).rangeAt b o cs:=World.rangeAt_setCells_apart h g j [v] (.inl (Ne.symm hg))
theorem flush1K(K:Nat→Bool){i:Nat}(h:K i=true)(w:World):Calls Tryz.prog 124 #[.int .i64 i] w fun e w'=>e=.returned (.bool (K i))∧w=w':=by rw[h]; exact flush1_any i w
theorem settleF_any(B:Nat)(g:Pl)(b:Nat)(ca:Option Addr)(n sc m cc:Nat)(S:Nat→Sec)(C:Nat→Wr)(f:Int)(d:Bool)(K:Nat→Bool)(w:World)(hM:Mine w B g (some ⟨b,0,none⟩) ca n sc m cc S C f d)(hn:1≤n)(nb:n * 130≤140737488355328)(mb:m * 136≤140737488355328)(hC:inAll n C m=true)(hK:∀i,K i=true) :
  Calls Tryz.prog 123 #[.pointer (some ⟨g.b,g.o,none⟩),.func (.func 124) #[] #[]] w fun e w'=>(∃v,e=.returned v)∧Near B g w w'∧Has w' g (some ⟨b,0,none⟩) none n sc 0 0 (stS S C K m) C f d:=by
 have hss:=hM.ss
 have hcs:=hM.cs
 have hgB:=hM.far
 have hb:=(hss.lt b rfl).2
 have hBb:=(hss.lt b rfl).1
 have hBw:B≤w.heap.size:=by omega
 obtain⟨hsl,hsr⟩:=hss
 obtain⟨_,curS,hcurS⟩:∃cap:Nat,∃cur:Array Value,w.heap[b]?=some (.cells cur 130 (0,0)):=by
  rcases hsr with ⟨hv,_⟩ | ⟨b',cap,cur,hv,_,hc,_⟩
  ·cases hv
  ·injection hv with h1 _ _
   injection h1 with h1
   injection h1 with h1
   subst h1
   exact⟨cap,cur,hc⟩
 have hlS:=lay_own (g:=g) (fun i _=>secV_length _) hM.ss (.inl hM.far)
 have hscap:n≤sc:=hlS.room
 have hRw:Rw w b n S:=by
  obtain⟨b',off,e,_,_,hr⟩:=hlS.rows.resolve_left (by omega)
  injection e with e
  injection e with e1 e2
  subst e1 e2
  exact⟨fun i hi=>by have:=hr i hi; rwa [Nat.zero_add] at this,fun j=>frozen_of_row w b j _ _ hcurS,⟨_,hcurS⟩⟩
 obtain⟨q,hq⟩:∃q,m=0∨(ca=some ⟨q,0,none⟩∧q≠b∧∀i,i < m→w.rangeAt q (0+i * 129) (wrV (C i))):=by
  rcases Nat.eq_zero_or_pos m with h0 | h0
  ·exact⟨0,.inl h0⟩
  ·have hlC:=lay_own (g:=g) (fun i _=>wrV_length _) hM.cs (.inl hM.far)
   obtain⟨q,off,e,_,_,hr⟩:=hlC.rows.resolve_left (by omega)
   rcases hcs.2 with ⟨_,hm0⟩ | ⟨q',cap,cur,hv,_,hc,_⟩
   ·omega
   ·injection hv with h1 _ _
    rw[e] at h1
    injection h1 with h1
    injection h1 with h1 h2
    subst h1 h2
    refine⟨q,.inr ⟨e,?_,hr⟩⟩
    rintro rfl
    rw[hcurS] at hc
    injection hc with hc
    injection hc with _ hc _
    cases hc
 have hgb:g≠b:=by omega
 have hRd:Rd B g b q 0 n m (.slice (some ⟨b,0,none⟩) n sc) (.slice ca m cc) (.int .i64 f) (.bool d) S C w w:=
  ⟨hM.bx,hRw,fun i hi=>by
   rcases hq with h0 | ⟨_,_,hr⟩
   ·omega
   ·exact hr i hi,.refl _ _ _⟩
 have c1:=hM.bx.c1
 have hn47:n≤140737488355328:=by omega
 have hm47:m≤140737488355328:=by omega
 clear hlS hRw hsl hsr hcurS hM hcs
 have HRD:=Lib.hid hRd
 have HC:=Lib.hid hC
 have HQ:=Lib.hid hq
 clear hRd hC hq
 go_enter Tryz.func123,Tryz.ntmps123
 go_wp2_with fail
 go_loopw [12] (fun i wr=>∃j:Nat,j≤m∧i=.int .i64 j∧Hid (Rd B g b q 0 n m (.slice (some ⟨b,0,none⟩) n sc) (.slice ca m cc) (.int .i64 f) (.bool d) (stS S C K j) C w wr)) (fun i _=>m - (intOf i).toNat)
 case atStart=>exact⟨0,by omega,rfl,HRD⟩
 case round=>
  obtain⟨j,hj,rfl,hR⟩:=hrel
  by_cases hlt:j < m
  ·obtain⟨rfl,hqb,_⟩:=HQ.out.resolve_left (by omega)
   obtain⟨hp0,hp1⟩:=hasB_nat (inAll_at hlt HC.out)
   have hj0:(0:Int)≤(j:Int):=by omega
   have hjm:(j:Int) < (m:Int):=by omega
   have hrow:=hR.out.cache j hlt
   rw[Nat.zero_add] at hrow
   go_wp2_with (first
    | (refine wpList_load_mid rfl 108 (.tmp 15) rfl q (j * 129) rfl (wrV (C j)) _ (by exact hrow) Tryz.underlying108 rfl (size_wr _) ?_; simp only[Act.put,aA])
    | (refine wpList_store_row rfl 108 (.tmp 5) (.tmp 16) rfl wr.heap.size (wrV (C j)).toArray rfl rfl 108 _ (heap_alloc_new _ _) (by rw[List.size_toArray]; exact size_wr _) (by rw[wrV_asize]; rfl) (all_oneCell_toArray (wrV_one _)) ?_; rw[World.setRow_alloc_new]; simp only[Act.put]))
   generalize hW1:wr.alloc (.cells (wrV (C j)).toArray 108)=W1
   have hb1:Below wr.heap.size wr W1:=by rw[←hW1]; exact(Below.refl _ _).alloc (Nat.le_refl _) _
   have hnew:W1.rangeAt wr.heap.size 0 (wrV (C j)):=by
    rw[←hW1]
    intro i v hv
    rw[cell_of_row _ _ _ _ _ _ (heap_alloc_new _ _),Nat.zero_add]
    simpa using hv
   have hR1:=Lib.hid (hR.out.below hb1 (by omega) hBw)
   have hlt1:wr.heap.size < W1.heap.size:=by rw[←hW1]; simp
   clear hW1 hrow
   refine(flush1K K (hK j) W1).mono ?_
   rintro _ _ ⟨rfl,rfl⟩
   dsimp only
   have cA:=hnew 0 _ (wrV_place _)
   rw[Nat.zero_add] at cA
   have cS:=hR1.out.bx.c0
   obtain⟨p,hp⟩:∃p:Nat,(C j).place=p:=⟨(C j).place.toNat,by omega⟩
   rw[hp] at cA hp0 hp1
   have hpn:p < n:=by omega
   cases hk:K j with
   | false=>
    have hs:stS S C K (j+1)=stS S C K j:=by rw[stS,if_neg (by rw[hk]; simp)]
    have hR2:Hid (Rd B g b q 0 n m (.slice (some ⟨b,0,none⟩) n sc) (.slice (some ⟨q,0,none⟩) m cc) (.int .i64 f) (.bool d) (stS S C K (j+1)) C w W1):=Lib.hid (by rw[hs]; exact hR1.out)
    clear hs
    go_wp2_with fail
    go_roundw
    case rel=>exact⟨j+1,by omega,by go_num,hR2⟩
    case measure=>simp[intOf]; omega
   | true=>
    have hs:stS S C K (j+1)=upd (stS S C K j) p ⟨(C j).data,false,(stS S C K j p).noWrite⟩:=by rw[stS,if_pos hk,hp,Int.toNat_natCast]
    go_wp2_with fail
    go_quiet (fail)
    have hb2:Below W1.heap.size W1 (W1.drewN nq):=⟨rfl,rfl,rfl,Nat.le_refl _,fun _ _=>rfl⟩
    generalize W1.drewN nq=W2 at hb2 ⊢
    have hR2:=hR1.out.below hb2 (by omega) hBw
    have hnew2:W2.rangeAt wr.heap.size 0 (wrV (C j)):=fun i v hv=>(hb2.cell hlt1).trans (hnew i v hv)
    have hdat:=wr_range (C j) hnew2
    rw[Nat.zero_add] at hdat
    have hth:W2.there b (p * 130) 128:=by
     have:=hR2.rows.there hpn (o:=0) (k:=128) (by omega)
     rwa [Nat.add_zero] at this
    have h128:(W2.setCells b (p * 130) (bl (C j).data)).cell? ⟨b,p * 130+128,none⟩=some (.bool (stS S C K j p).noRead):=by
     rw[World.cell?_setCells_out b _ _ W2 _ (fun _ _=>.inr (by rw[bL]; exact Nat.le_refl _))]
     exact hR2.rows.rows p hpn 128 _ (secV_read _)
    have f128:(W2.setCells b (p * 130) (bl (C j).data)).frozen? ⟨b,p * 130+128,none⟩=false:=by
     rw[World.frozen?_setCells]
     exact hR2.rows.free _
    have hR3:Hid (Rd B g b q 0 n m (.slice (some ⟨b,0,none⟩) n sc) (.slice (some ⟨q,0,none⟩) m cc) (.int .i64 f) (.bool d) (stS S C K (j+1)) C w ((W2.setCells b (p * 130) (bl (C j).data)).setCell ⟨b,p * 130+128,none⟩ (.bool false))):=Lib.hid (by
     rw[hs]
     exact hR2.write hpn _ hgb hqb hBb)
    clear hs hR2 hnew2 hb2 hnew hR1 cA cS
    generalize hD:(C j).data=D at hdat hth h128 f128 hR3
    go_wp2_with (first
     | (refine wpList_load_mid rfl 47 (.tmp 29) rfl wr.heap.size 1 rfl (bl D) _ (by exact hdat) und29 rfl (sB _) ?_; simp only[Act.put,aA])
     | (refine wpList_store_mid rfl 47 (.tmp 32) (.tmp 30) rfl b (p * 130) (bl D).toArray rfl rfl (by rw[List.size_toArray,bL]; exact hth) (by rw[List.size_toArray]; exact sB _) (all_oneCell_toArray (bl_one _)) ?_; simp only[Act.put]; generalize W2.setCells b (p * 130) (bl D)=W3 at h128 f128 hR3 ⊢))
    go_roundw
    case rel=>exact⟨j+1,by omega,by go_num,hR3⟩
    case measure=>simp[intOf]; omega
  ·obtain rfl:j=m:=by omega
   have k1:=hR.out.bx.c1
   have kf:=hR.out.bx.fr (g.o+1)
   go_wp2_with fail
   go_end0
   refine⟨⟨_,rfl⟩,hR.out.near.put _ _,hR.out.bx.s1 _,?_,Lay.empty _ _ _ 0 _ _,nb,by omega,.inr fun q o s e=>(by injection e with e; injection e with e1; subst e1; exact ty_setCell hR.out.rows.ty _ _ _),.zero _ _ _⟩
   have hlt':=hR.out.rows.lt (by omega)
   refine⟨hscap,by simp,.inr ⟨b,0,rfl,by simpa using hlt',Ne.symm hgb,fun i hi=>?_⟩⟩
   rw[Nat.zero_add]
   exact range_other (hR.out.rows.rows i hi) hgb _ _
def keepB(kn:Nat)(kf:Nat→Bool)(i:Nat):Bool:=decide (i < kn) && kf i
end Dk
end Go.Proofs.YteaocagepfgfnaaGreatDoor
