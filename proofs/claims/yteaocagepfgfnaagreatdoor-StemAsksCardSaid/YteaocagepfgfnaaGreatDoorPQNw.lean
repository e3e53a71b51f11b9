import Derived.Test.YteaocagepfgfnaaGreatDoorPQRm
import Derived.Test.YteaocagepfgfnaaGreatDoorPVlL
set_option maxRecDepth 100000
set_option maxHeartbeats 8000000
namespace Go.Proofs.YteaocagepfgfnaaGreatDoor
namespace Qv
open Go.RowKit Dk Gm Eqb Rm Di Vl
open Vm (HasVol vM vX0)
theorem fs_zero{i:Nat}(n:Nat)(_:i < n):(0:Int)≤(fun _=>0:Nat→Int) i∧(fun _=>0:Nat→Int) i < 256:=by
 show(0:Int)≤0∧(0:Int) < 256
 omega
def hq(q:Qt):Int:=2 * (q.1:Int)+148
def gq(q:Qt):Array Value:=#[.int .i64 (nq q:Int),.int .i64 (hq q),.int .i64 2,.int .i64 4,.int .i64 28,.int .i64 (zq q:Int)]
theorem gq_lay(q:Qt):gA (lay (q.1:Int))=gq q:=by
 have hN:=q.num
 unfold gA lay gq hq
 rw[hN.1,hN.2.1]
theorem erq(q:Qt):er (q.1:Int)=0:=er_in (inq q)
theorem okq(q:Qt):Dk.newOk (nq q:Int)=true:=by
 have hN:=q.num
 unfold Dk.newOk
 rw[decide_eq_true (by omega),decide_eq_true (by omega)]
 rfl
theorem firstq(q:Qt)(w:World):Calls Tryz.prog 95 #[.agg (gq q)] w fun e w'=>e=.returned (.agg #[.int .i64 28,.int .i64 (bq q)])∧Below w.heap.size w w':=by
 have:=firsts_any (lay (q.1:Int)) w (by have hN:=q.num; show -9223372036854775808≤4 * (q.1:Int)+316∧4 * (q.1:Int)+316≤9223372036854775807; omega)
 rw[(pl_at (inq q)).1,(pl_at (inq q)).2,gq_lay] at this
 exact this
theorem newq(q:Qt)(w:World):Calls Tryz.prog 96 #[.int .i64 28,.int .i64 (bq q),.int .i64 (zq q:Int)] w fun e w'=>∃ao cap,e=.returned (.tuple #[.agg #[.int .i64 28,.int .i64 (bq q),.int .i64 (zq q:Int),.slice ao (kq q) cap],.int .i64 0])∧Sp.OwnS w' w.heap.size ao (kq q) cap (fun _=>0)∧Below w.heap.size w w':=by
 have:=Sp.New_any 28 (bq q) (zq q:Int) w (i64_b q)
 have hap:Sp.apartB 28 (bq q) (zq q:Int)=true:=Sp.apartB_yes (by have hN:=q.num; omega)
 have hk:2 * ((zq q:Nat):Int).toNat=kq q:=by have hN:=q.num; omega
 unfold Sp.nwS Sp.nwN Sp.nwE at this
 rw[hap,if_pos rfl,if_pos rfl,if_pos rfl,if_pos rfl,if_pos rfl,hk] at this
 exact this
variable {q:Qt}
structure Ub(q:Qt)(w:World)(d0 d1 d2 d3 m0 m1:Value)(w':World):Prop where
 be:Below w.heap.size w w'
 sz:w.heap.size+4≤w'.heap.size
 g:w'.heap[w.heap.size]?=some (.cells (gq q) 69 (0,0))
 d:w'.heap[w.heap.size+1]?=some (.cells #[d0,d1,d2,d3] 34 (0,0))
 m:w'.heap[w.heap.size+1+1]?=some (.cells #[m0,m1] 37 (0,0))
 v:Vb w' (w.heap.size+1+1+1) (.slice none 0 0) (.slice none 0 0) (.int .i64 0) (.bool false) (.int .i64 0) (.slice none 0 0) (.int .i64 0) (.int .i64 0) (.int .i64 0) (.slice none 0 0)
theorem Ub.below{w w' w'':World}{d0 d1 d2 d3 m0 m1:Value}(h:Ub q w d0 d1 d2 d3 m0 m1 w')(hb:Below w'.heap.size w' w''):Ub q w d0 d1 d2 d3 m0 m1 w'':=
 ⟨h.be.trans (hb.mono h.be.size),Nat.le_trans h.sz hb.size,(hb.block _ (by have:=h.sz; omega)).trans h.g,(hb.block _ (by have:=h.sz; omega)).trans h.d,(hb.block _ (by have:=h.sz; omega)).trans h.m,h.v.below hb (by have:=h.sz; omega)⟩
theorem ub_start(q:Qt)(w:World)(d0 d1 d2 d3 m0 m1:Value):∃W,W=(((w.alloc (.cells (gq q) 69)).alloc (.cells #[d0,d1,d2,d3] 34)).alloc (.cells #[m0,m1] 37)).alloc (.cells #[.slice none 0 0,.slice none 0 0,.int .i64 0,.bool false,.int .i64 0,.slice none 0 0,.int .i64 0,.int .i64 0,.int .i64 0,.slice none 0 0] 43)∧Ub q w d0 d1 d2 d3 m0 m1 W:=by
 have b1:Below w.heap.size w (w.alloc (.cells (gq q) 69)):=(Below.refl _ _).alloc (Nat.le_refl _) _
 have h1:=heap_alloc_new w (.cells (gq q) 69)
 have s1:(w.alloc (.cells (gq q) 69)).heap.size=w.heap.size+1:=by simp
 generalize w.alloc (.cells (gq q) 69)=w1 at *
 have b2:Below w1.heap.size w1 (w1.alloc (.cells #[d0,d1,d2,d3] 34)):=(Below.refl _ _).alloc (Nat.le_refl _) _
 have h2:=heap_alloc_new w1 (.cells #[d0,d1,d2,d3] 34)
 have s2:(w1.alloc (.cells #[d0,d1,d2,d3] 34)).heap.size=w.heap.size+2:=by simp[s1]
 generalize w1.alloc (.cells #[d0,d1,d2,d3] 34)=w2 at *
 have b3:Below w2.heap.size w2 (w2.alloc (.cells #[m0,m1] 37)):=(Below.refl _ _).alloc (Nat.le_refl _) _
 have h3:=heap_alloc_new w2 (.cells #[m0,m1] 37)
 have s3:(w2.alloc (.cells #[m0,m1] 37)).heap.size=w.heap.size+3:=by simp[s2]
 generalize w2.alloc (.cells #[m0,m1] 37)=w3 at *
 refine⟨_,rfl,?_⟩
 have b4:Below w3.heap.size w3 (w3.alloc (.cells #[.slice none 0 0,.slice none 0 0,.int .i64 0,.bool false,.int .i64 0,.slice none 0 0,.int .i64 0,.int .i64 0,.int .i64 0,.slice none 0 0] 43)):=(Below.refl _ _).alloc (Nat.le_refl _) _
 have h4:=heap_alloc_new w3 (.cells #[.slice none 0 0,.slice none 0 0,.int .i64 0,.bool false,.int .i64 0,.slice none 0 0,.int .i64 0,.int .i64 0,.int .i64 0,.slice none 0 0] 43)
 have s4:(w3.alloc (.cells #[.slice none 0 0,.slice none 0 0,.int .i64 0,.bool false,.int .i64 0,.slice none 0 0,.int .i64 0,.int .i64 0,.int .i64 0,.slice none 0 0] 43)).heap.size=w.heap.size+4:=by simp[s3]
 rw[s1] at h2
 rw[s2] at h3
 rw[s3] at h4
 refine⟨((b1.trans (b2.mono (by have hN:=q.num; omega))).trans (b3.mono (by have hN:=q.num; omega))).trans (b4.mono (by have hN:=q.num; omega)),by have hN:=q.num; omega,?_,?_,?_,h4⟩
 ·exact(b4.block _ (by have hN:=q.num; omega)).trans ((b3.block _ (by have hN:=q.num; omega)).trans ((b2.block _ (by have hN:=q.num; omega)).trans h1))
 ·exact(b4.block _ (by have hN:=q.num; omega)).trans ((b3.block _ (by have hN:=q.num; omega)).trans h2)
 ·exact(b4.block _ (by have hN:=q.num; omega)).trans h3
theorem unusedq(q:Qt)(sa:Option Addr)(n sc:Nat)(ca:Option Addr)(m cc:Nat)(fu:Int)(d:Bool)(gen:Int)(pa:Option Addr)(k cap:Nat)(w:World) :
  Calls Tryz.prog 61 #[.agg (gq q),.agg #[.slice sa n sc,.slice ca m cc,.int .i64 fu,.bool d],.agg #[.int .i64 gen,.slice pa k cap]] w fun e w'=>∃ao kc,
   e=.returned (.tuple #[.agg #[.slice sa n sc,.slice ca m cc,.int .i64 fu,.bool d,.int .i64 gen,.slice pa k cap,.int .i64 28,.int .i64 (bq q),.int .i64 (zq q:Int),.slice ao (kq q) kc],.int .i64 0])∧Sp.OwnS w' w.heap.size ao (kq q) kc (fun _=>0)∧Below w.heap.size w w':=by
 obtain⟨W,hW,hU⟩:=ub_start q w (.slice sa n sc) (.slice ca m cc) (.int .i64 fu) (.bool d) (.int .i64 gen) (.slice pa k cap)
 have HU:=Lib.hid (fun w' (hb:Below W.heap.size W w')=>hU.below hb)
 have gc:=fun w' (hb:Below W.heap.size W w') (j:Nat)=>cell_of_row w' w.heap.size j _ _ _ (hU.below hb).g
 have HGC:=Lib.hid gc
 have hsz:=hU.sz
 clear hU gc
 have k0:W.cell? ⟨w.heap.size,0,none⟩=some (.int .i64 (nq q:Int)):=HGC.out W (Below.refl _ _) 0
 have k1:W.cell? ⟨w.heap.size,1,none⟩=some (.int .i64 (hq q)):=HGC.out W (Below.refl _ _) 1
 have k2:W.cell? ⟨w.heap.size,2,none⟩=some (.int .i64 2):=HGC.out W (Below.refl _ _) 2
 have k3:W.cell? ⟨w.heap.size,3,none⟩=some (.int .i64 4):=HGC.out W (Below.refl _ _) 3
 have k4:W.cell? ⟨w.heap.size,4,none⟩=some (.int .i64 28):=HGC.out W (Below.refl _ _) 4
 have k5:W.cell? ⟨w.heap.size,5,none⟩=some (.int .i64 (zq q:Int)):=HGC.out W (Below.refl _ _) 5
 dsimp only [gq] at hW ⊢
 go_enter Tryz.func61,Tryz.ntmps61
 go_wp2_with (rw[←hW])
 clear hW
 refine(firstq q W).mono ?_
 rintro _ w1 ⟨rfl,hb1⟩
 clear k0 k1 k2 k3 k4 k5
 have hs1:=hb1.size
 have k5:w1.cell? ⟨w.heap.size,5,none⟩=some (.int .i64 (zq q:Int)):=HGC.out w1 hb1 5
 have hb2:Below w1.heap.size w1 (w1.alloc (.cells #[.int .i64 28,.int .i64 (bq q)] 38)):=(Below.refl _ _).alloc (Nat.le_refl _) _
 have k5':(w1.alloc (.cells #[.int .i64 28,.int .i64 (bq q)] 38)).cell? ⟨w.heap.size,5,none⟩=some (.int .i64 (zq q:Int)):=HGC.out _ (hb1.trans (hb2.mono hs1)) 5
 have hB2:=hb1.trans (hb2.mono hs1)
 dsimp only
 go_wp2_with fail
 refine(newq q _).mono ?_
 rintro _ w3 ⟨ao,kc,rfl,hO,hb3⟩
 have hB3:=hB2.trans (hb3.mono hB2.size)
 have hO3:=Lib.hid hO
 clear k5 k5' hb2 hB2 hO hb3
 have hb4:Below w3.heap.size w3 (w3.alloc (.cells #[.int .i64 28,.int .i64 (bq q),.int .i64 (zq q:Int),.slice ao (kq q) kc] 41)):=(Below.refl _ _).alloc (Nat.le_refl _) _
 have hB4:=hB3.trans (hb4.mono hB3.size)
 have hU3:=HU.out w3 hB3
 have hU4:=HU.out _ hB4
 have d0:w3.cell? ⟨w.heap.size+1,0,none⟩=some (.slice sa n sc):=by rw[cell_of_row _ _ _ _ _ _ hU3.d]; rfl
 have d1:w3.cell? ⟨w.heap.size+1,1,none⟩=some (.slice ca m cc):=by rw[cell_of_row _ _ _ _ _ _ hU3.d]; rfl
 have d2:w3.cell? ⟨w.heap.size+1,2,none⟩=some (.int .i64 fu):=by rw[cell_of_row _ _ _ _ _ _ hU3.d]; rfl
 have d3:w3.cell? ⟨w.heap.size+1,3,none⟩=some (.bool d):=by rw[cell_of_row _ _ _ _ _ _ hU3.d]; rfl
 have m0:w3.cell? ⟨w.heap.size+1+1,0,none⟩=some (.int .i64 gen):=by rw[cell_of_row _ _ _ _ _ _ hU3.m]; rfl
 have m1:w3.cell? ⟨w.heap.size+1+1,1,none⟩=some (.slice pa k cap):=by rw[cell_of_row _ _ _ _ _ _ hU3.m]; rfl
 have d0a:(w3.alloc (.cells #[.int .i64 28,.int .i64 (bq q),.int .i64 (zq q:Int),.slice ao (kq q) kc] 41)).cell? ⟨w.heap.size+1,0,none⟩=some (.slice sa n sc):=by rw[cell_of_row _ _ _ _ _ _ hU4.d]; rfl
 have d1a:(w3.alloc (.cells #[.int .i64 28,.int .i64 (bq q),.int .i64 (zq q:Int),.slice ao (kq q) kc] 41)).cell? ⟨w.heap.size+1,1,none⟩=some (.slice ca m cc):=by rw[cell_of_row _ _ _ _ _ _ hU4.d]; rfl
 have d2a:(w3.alloc (.cells #[.int .i64 28,.int .i64 (bq q),.int .i64 (zq q:Int),.slice ao (kq q) kc] 41)).cell? ⟨w.heap.size+1,2,none⟩=some (.int .i64 fu):=by rw[cell_of_row _ _ _ _ _ _ hU4.d]; rfl
 have d3a:(w3.alloc (.cells #[.int .i64 28,.int .i64 (bq q),.int .i64 (zq q:Int),.slice ao (kq q) kc] 41)).cell? ⟨w.heap.size+1,3,none⟩=some (.bool d):=by rw[cell_of_row _ _ _ _ _ _ hU4.d]; rfl
 have m0a:(w3.alloc (.cells #[.int .i64 28,.int .i64 (bq q),.int .i64 (zq q:Int),.slice ao (kq q) kc] 41)).cell? ⟨w.heap.size+1+1,0,none⟩=some (.int .i64 gen):=by rw[cell_of_row _ _ _ _ _ _ hU4.m]; rfl
 have m1a:(w3.alloc (.cells #[.int .i64 28,.int .i64 (bq q),.int .i64 (zq q:Int),.slice ao (kq q) kc] 41)).cell? ⟨w.heap.size+1+1,1,none⟩=some (.slice pa k cap):=by rw[cell_of_row _ _ _ _ _ _ hU4.m]; rfl
 have hv4:=hU4.v
 have hbe:=hU4.be
 have hlt3:=hB3.size
 clear hU3 hU4
 dsimp only
 go_wp2_with (refine @wpList_store_row _ _ _ _ _ _ _ rfl 43 (.tmp 6) (.tmp 30) rfl (w.heap.size+1+1+1) #[.slice sa n sc,.slice ca m cc,.int .i64 fu,.bool d,.int .i64 gen,.slice pa k cap,.int .i64 28,.int .i64 (bq q),.int .i64 (zq q:Int),.slice ao (kq q) kc] rfl rfl 43 _ hv4 (vol_size _ _ _ _ _ _ _ _ _ _) rfl (vol_one _ _ _ _ _ _ _ _ _ _ _ _ _ _ _ _ _ _) ?_; simp only[Act.put])
 have hrow:Vb _ (w.heap.size+1+1+1) _ _ _ _ _ _ _ _ _ _:=setRow_heap (w3.alloc (.cells #[.int .i64 28,.int .i64 (bq q),.int .i64 (zq q:Int),.slice ao (kq q) kc] 41)) (w.heap.size+1+1+1) _ #[.slice sa n sc,.slice ca m cc,.int .i64 fu,.bool d,.int .i64 gen,.slice pa k cap,.int .i64 28,.int .i64 (bq q),.int .i64 (zq q:Int),.slice ao (kq q) kc] 43 (0,0) hv4
 refine bodyPost_ret (hrow.results2 rfl rfl rfl) rfl ?_
 refine⟨ao,kc,rfl,?_,below_only hbe (by have hN:=q.num; omega) (gR _)⟩
 have h1:Sp.OwnS (w3.alloc (.cells #[.int .i64 28,.int .i64 (bq q),.int .i64 (zq q:Int),.slice ao (kq q) kc] 41)) _ ao (kq q) kc (fun _=>0):=hO3.out.below hb4
 exact owns_more (own_only h1 (gR _) (by simp; omega)) (by simp; omega)
structure Nv(q:Qt)(w:World)(sa:Option Addr)(sc:Nat)(ca:Option Addr)(cc:Nat)(ao:Option Addr)(kc:Nat):Prop where
 ss:Lay w w.heap.size w.heap.size sa (nq q) sc 130 (fun i=>secV ((vX1 q).S i))
 cs:Lay w w.heap.size w.heap.size ca 0 cc 129 (fun i=>wrV ((vX1 q).C i))
 ts:Ty w (nq q) sa 130
 st:Sp.St w w.heap.size ao (kq q) kc (fun _=>0)
def nvC(q:Qt)(sa:Option Addr)(sc:Nat)(ca:Option Addr)(cc:Nat)(ao:Option Addr)(kc:Nat):Array Value:=#[.slice sa (nq q) sc,.slice ca 0 cc,.int .i64 (-1),.bool false,.int .i64 0,.slice none 0 0,.int .i64 28,.int .i64 (bq q),.int .i64 (zq q:Int),.slice ao (kq q) kc]
theorem Nv.has{w:World}{sa ca ao:Option Addr}{sc cc kc:Nat}(h:Nv q w sa sc ca cc ao kc)(h0:w.heap.size≠0){w':World}(hw:w'=w.alloc (.cells (nvC q sa sc ca cc ao kc) 43)):HasVol w' (Pl.own w.heap.size 43) (nq q) (vX1 q) vM 28 (bq q) (zq q) (kq q) (fun _=>0):=by
 obtain⟨_,hu,hm,_⟩:=fresh_up (q:=q)
 have hb:Below w.heap.size w w':=by rw[hw]; exact(Below.refl _ _).alloc (Nat.le_refl _) _
 refine Vx.has (sa:=sa) (sc:=sc) (ca:=ca) (cc:=cc) (pa:=none) (cap:=0) (ao:=ao) (kc:=kc) ⟨?_,(h.ss.below hb).more hb.size,?_,Lay.empty _ _ _ 0 _ _,h.st.later hb,by have hN:=q.num; omega,by have hN:=q.num; omega,h.ts.below h.ss hb,by rw[hm]; exact .zero _ _ _⟩ (Pl.own_noB _ _) h0
 ·rw[hm,hu.n,hu.d,hw]
  exact heap_alloc_new w _
 ·rw[hm]
  exact(h.cs.below hb).more hb.size
theorem new_v(q:Qt)(w:World)(hk:Rm.Kp w):Calls Tryz.prog 22 #[.int .i64 (q.1:Int)] w fun e w'=>∃sa sc ca cc ao kc,e=.returned (.tuple #[.agg (nvC q sa sc ca cc ao kc),.int .i64 0])∧Nv q w' sa sc ca cc ao kc∧Below w.heap.size w w':=by
 have HK:=Lib.hid (fun W (hb:Below w.heap.size w W)=>hk.below hb)
 obtain⟨he1,hup,hm1,_⟩:=fresh_up (q:=q)
 have HM1:=Lib.hid hm1
 have HN1:=Lib.hid hup.n
 have HD1:=Lib.hid hup.d
 have HFQ:=Lib.hid (fun w'=>forq_any (q.1:Int) w')
 rw[geo_in (inq q),erq,gq_lay] at HFQ
 obtain⟨W,hW,hB0,hs0,hV0⟩:∃W,W=w.alloc (.cells #[.slice none 0 0,.slice none 0 0,.int .i64 0,.bool false,.int .i64 0,.slice none 0 0,.int .i64 0,.int .i64 0,.int .i64 0,.slice none 0 0] 43)∧Below w.heap.size w W∧W.heap.size=w.heap.size+1∧Vb W w.heap.size (.slice none 0 0) (.slice none 0 0) (.int .i64 0) (.bool false) (.int .i64 0) (.slice none 0 0) (.int .i64 0) (.int .i64 0) (.int .i64 0) (.slice none 0 0):=
  ⟨_,rfl,(Below.refl _ _).alloc (Nat.le_refl _) _,by simp,heap_alloc_new _ _⟩
 clear hk hup hm1
 dsimp only [gq] at HFQ
 go_enter Tryz.func22,Tryz.ntmps22
 go_wp2_with fail
 rw[←hW]
 clear hW
 refine(HFQ.out W).mono ?_
 rintro _ w1 ⟨rfl,hb1⟩
 have hV1:=hV0.below hb1 (by have hN:=q.num; omega)
 have hB1:=hB0.trans (hb1.mono hB0.size)
 have hs1:=hb1.size
 clear HFQ hV0 hb1 hB0
 obtain⟨w2,hW2⟩:∃w2,w2=w1.alloc (.cells #[.int .i64 (nq q:Int),.int .i64 (hq q),.int .i64 2,.int .i64 4,.int .i64 28,.int .i64 (zq q:Int)] 69):=⟨_,rfl⟩
 have hb2:Below w1.heap.size w1 w2:=by rw[hW2]; exact(Below.refl _ _).alloc (Nat.le_refl _) _
 have hG2:w2.heap[w1.heap.size]?=some (.cells (gq q) 69 (0,0)):=by rw[hW2]; exact heap_alloc_new w1 _
 have hs2:w2.heap.size=w1.heap.size+1:=by rw[hW2]; simp
 have hV2:=hV1.below hb2 (by have hN:=q.num; omega)
 have hB2:=hB1.trans (hb2.mono hB1.size)
 dsimp only
 go_wp2_with (rw[←hW2])
 clear hW2 hV1 hB1 hb2
 have hgl:w1.heap.size < w2.heap.size:=by omega
 generalize w1.heap.size=bg at hG2 hs1 hgl ⊢
 refine(new_any (nq q:Int) w2).mono ?_
 intro e w3 hn
 obtain⟨hb3,hn⟩:=hn
 rw[if_pos (okq q)] at hn
 obtain⟨bl1,rfl,hl,hty⟩:=hn
 have hs3:=hb3.size
 have hG3:=(hb3.block bg hgl).trans hG2
 have hV3:=hV2.below hb3 (by have hN:=q.num; omega)
 have hB3:=hB2.trans (hb3.mono hB2.size)
 clear hG2 hV2 hB2 hb3
 dsimp only
 go_wp2_with (refine wpList_store_row rfl 34 (.tmp 6) (.tmp 21) rfl w3.heap.size #[.slice (some ⟨bl1,0,none⟩) (nq q) (nq q),.slice none 0 0,.int .i64 (-1),.bool false] rfl rfl 34 _ (heap_alloc_new w3 _) (by kernel_rfl) rfl (disk_one _ _ _ _ _ _ _ _) ?_; rw[World.setRow_alloc_new]; simp only[Act.put])
 generalize hW4:w3.alloc (.cells #[.slice (some ⟨bl1,0,none⟩) (nq q) (nq q),.slice none 0 0,.int .i64 (-1),.bool false] 34)=w4
 have hH4:HasD w4 (Pl.own w3.heap.size 34) (nq q) vX0:=⟨_,_,_,_,new_has (k:=(nq q)) (by have hN:=q.num; omega) hl hty hW4.symm⟩
 have hb4:Below w3.heap.size w3 w4:=by rw[←hW4]; exact(Below.refl _ _).alloc (Nat.le_refl _) _
 have hs4:w4.heap.size=w3.heap.size+1:=by rw[←hW4]; simp
 have hB4:=hB3.trans (hb4.mono hB3.size)
 have hG4:=(hb4.block bg (by have hN:=q.num; omega)).trans hG3
 have hV4:=hV3.below hb4 (by have hN:=q.num; omega)
 have hgl4:w.heap.size < w3.heap.size∧bg < w3.heap.size∧w3.heap.size < w4.heap.size:=by omega
 clear hW4 hl hty hG3 hV3 hB3 hb4
 generalize w3.heap.size=g at hH4 hgl4 hs4 ⊢
 refine(format_d hH4 ((vX0_up (q:=q)).ok (k:=2) (by decide)) (HK.out w4 hB4)).mono ?_
 rw[he1]
 rintro _ w5 ⟨rfl,hg5,hD5⟩
 have hB5:Below w.heap.size w w5:=below_only hB4 (by show w.heap.size≤g; omega) hg5
 have hs5:=hg5.size
 have hG5:=(hg5.block bg (by have hN:=q.num; omega) (by show some bg≠some g; simp; omega)).trans hG4
 have hV5:=hV4.block (hg5.block w.heap.size (by have hN:=q.num; omega) (by show some w.heap.size≠some g; simp; omega))
 have hD5':HasD w5 (Pl.own g 34) (nq q) (vX1 q):=hD5
 clear hg5 hB4 hD5 hH4 hG4 hV4
 obtain⟨w6,hW6⟩:∃w6,w6=w5.alloc (.cells #[.int .i64 0,.slice none 0 0] 37):=⟨_,rfl⟩
 have hb6:Below w5.heap.size w5 w6:=by rw[hW6]; exact(Below.refl _ _).alloc (Nat.le_refl _) _
 have ht6:w6.heap[w5.heap.size]?=some (.cells #[.int .i64 0,.slice none 0 0] 37 (0,0)):=by rw[hW6]; exact heap_alloc_new _ _
 have hs6:w6.heap.size=w5.heap.size+1:=by rw[hW6]; simp
 obtain⟨sa,sc,ca,cc,hH6⟩:=hD5'.below hb6
 rw[HM1.out,HN1.out,HD1.out] at hH6
 have hB6:=hB5.trans (hb6.mono hB5.size)
 have hG6:=(hb6.block bg (by have hN:=q.num; omega)).trans hG5
 have hV6:=hV5.below hb6 (by have hN:=q.num; omega)
 have HH6:=Lib.hid hH6
 have HB6:=Lib.hid hB6
 have HV6:=Lib.hid hV6
 have hbx:=hH6.bx
 have c0:w6.cell? ⟨g,0,none⟩=_:=hbx.c0
 have c1:w6.cell? ⟨g,1,none⟩=_:=hbx.c1
 have c2:w6.cell? ⟨g,2,none⟩=_:=hbx.c2
 have c3:w6.cell? ⟨g,3,none⟩=_:=hbx.c3
 have k0:w6.cell? ⟨bg,0,none⟩=some (.int .i64 (nq q:Int)):=by rw[cell_of_row _ _ _ _ _ _ hG6]; rfl
 have k1:w6.cell? ⟨bg,1,none⟩=some (.int .i64 (hq q)):=by rw[cell_of_row _ _ _ _ _ _ hG6]; rfl
 have k2:w6.cell? ⟨bg,2,none⟩=some (.int .i64 2):=by rw[cell_of_row _ _ _ _ _ _ hG6]; rfl
 have k3:w6.cell? ⟨bg,3,none⟩=some (.int .i64 4):=by rw[cell_of_row _ _ _ _ _ _ hG6]; rfl
 have k4:w6.cell? ⟨bg,4,none⟩=some (.int .i64 28):=by rw[cell_of_row _ _ _ _ _ _ hG6]; rfl
 have k5:w6.cell? ⟨bg,5,none⟩=some (.int .i64 (zq q:Int)):=by rw[cell_of_row _ _ _ _ _ _ hG6]; rfl
 have b0:w5.cell? ⟨g,0,none⟩=_:=(hb6.cell (p:=⟨g,0,none⟩) (by show g < w5.heap.size; omega)).symm.trans c0
 have b1:w5.cell? ⟨g,1,none⟩=_:=(hb6.cell (p:=⟨g,1,none⟩) (by show g < w5.heap.size; omega)).symm.trans c1
 have b2:w5.cell? ⟨g,2,none⟩=_:=(hb6.cell (p:=⟨g,2,none⟩) (by show g < w5.heap.size; omega)).symm.trans c2
 have b3:w5.cell? ⟨g,3,none⟩=_:=(hb6.cell (p:=⟨g,3,none⟩) (by show g < w5.heap.size; omega)).symm.trans c3
 have j0:w5.cell? ⟨bg,0,none⟩=some (.int .i64 (nq q:Int)):=by rw[cell_of_row _ _ _ _ _ _ hG5]; rfl
 have j1:w5.cell? ⟨bg,1,none⟩=some (.int .i64 (hq q)):=by rw[cell_of_row _ _ _ _ _ _ hG5]; rfl
 have j2:w5.cell? ⟨bg,2,none⟩=some (.int .i64 2):=by rw[cell_of_row _ _ _ _ _ _ hG5]; rfl
 have j3:w5.cell? ⟨bg,3,none⟩=some (.int .i64 4):=by rw[cell_of_row _ _ _ _ _ _ hG5]; rfl
 have j4:w5.cell? ⟨bg,4,none⟩=some (.int .i64 28):=by rw[cell_of_row _ _ _ _ _ _ hG5]; rfl
 have j5:w5.cell? ⟨bg,5,none⟩=some (.int .i64 (zq q:Int)):=by rw[cell_of_row _ _ _ _ _ _ hG5]; rfl
 obtain⟨m0,m1⟩:w6.cell? ⟨w5.heap.size,0,none⟩=some (.int .i64 0)∧w6.cell? ⟨w5.heap.size,1,none⟩=some (.slice none 0 0):=tab_cells ht6
 clear hD5' hb6 ht6 hB5 hG5 hV5 hH6 hB6 hG6 hV6 hbx
 dsimp only
 rw[hW6] at c0 c1 c2 c3 k0 k1 k2 k3 k4 k5 m0 m1
 go_wp2_with (rw[←hW6])
 refine(unusedq q sa (nq q) sc ca 0 cc (-1) false 0 none 0 0 w6).mono ?_
 rintro _ w7 ⟨ao,kc,rfl,hO,hb7⟩
 have hV7:=HV6.out.below hb7 (by have hN:=q.num; omega)
 have hH7:=HH6.out.below hb7
 have hB7:=HB6.out.trans (hb7.mono HB6.out.size)
 clear c0 c1 c2 c3 k0 k1 k2 k3 k4 k5 m0 m1 b0 b1 b2 b3 j0 j1 j2 j3 j4 j5 hW6
 have HH7:=Lib.hid hH7
 have HB7:=Lib.hid hB7
 have HO7:=Lib.hid hO
 clear hH7 hB7 hO hb7
 dsimp only
 go_wp2_with (refine @wpList_store_row _ _ _ _ _ _ _ rfl 43 (.tmp 2) (.tmp 39) rfl w.heap.size (nvC q sa sc ca cc ao kc) rfl rfl 43 _ hV7 (vol_size _ _ _ _ _ _ _ _ _ _) rfl (vol_one _ _ _ _ _ _ _ _ _ _ _ _ _ _ _ _ _ _) ?_; simp only[Act.put])
 have hrow:Vb _ w.heap.size _ _ _ _ _ _ _ _ _ _:=setRow_heap w7 w.heap.size _ (nvC q sa sc ca cc ao kc) 43 (0,0) hV7
 refine bodyPost_ret (hrow.results2 rfl rfl rfl) rfl ?_
 obtain⟨l1,t1⟩:=lay_row HH7.out.ss HH7.out.ts hV7 (by decide) (nvC q sa sc ca cc ao kc)
 obtain⟨l2,_⟩:=lay_row HH7.out.cs HH7.out.tc hV7 (by decide) (nvC q sa sc ca cc ao kc)
 exact⟨sa,sc,ca,cc,ao,kc,rfl,⟨l1,l2,t1,Sp.OwnS.st (own_only HO7.out (gR _) (by have hN:=q.num; omega)) (fun _ h=>fs_zero _ h) (by have hN:=q.num; omega)⟩,below_only HB7.out (Nat.le_refl _) (gR _)⟩
end Qv
end Go.Proofs.YteaocagepfgfnaaGreatDoor
