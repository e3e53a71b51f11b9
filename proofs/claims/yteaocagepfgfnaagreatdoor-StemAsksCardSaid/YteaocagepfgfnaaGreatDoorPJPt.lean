import Derived.Test.YteaocagepfgfnaaGreatDoorPDkBase
import Derived.Test.YteaocagepfgfnaaGreatDoorPJWd
import Derived.Great.BuildSlice
import Derived.Test.YteaocagepfgfnaaGreatDoorPJSh
import Derived.Test.YteaocagepfgfnaaGreatDoorPAl
set_option maxRecDepth 100000
set_option maxHeartbeats 8000000
namespace Go.Proofs.YteaocagepfgfnaaGreatDoor
namespace Pt
open Go.RowKit Dk Eqb Byt
structure Pn where
 A:Int
 B:Int
 S:Nat→Int
def pV(p:Pn):List Value:=.int .i64 p.A :: .int .i64 p.B :: (List.range 32).map fun j=>.int .u8 (p.S j)
theorem pL(p:Pn):(pV p).length=34:=by simp[pV]
theorem pV_asize(p:Pn):(pV p).toArray.size=34:=by rw[List.size_toArray,pL]
theorem pV_sum(p:Pn){j:Nat}(h:j < 32):(pV p)[2+j]?=some (.int .u8 (p.S j)):=by
 unfold pV
 rw[show 2+j=j+1+1 by omega]
 simp[h]
theorem pV_one(p:Pn):∀u ∈ pV p,u.oneCell'=true:=by
 intro u hu
 simp only[pV,List.mem_cons,List.mem_map] at hu
 rcases hu with h | h | ⟨_,_,h⟩
 ·subst h; rfl
 ·subst h; rfl
 ·subst h; rfl
theorem pV_all(p:Pn):(pV p).toArray.all (·.oneCell')=true:=all_oneCell_toArray (pV_one p)
def zS:Nat→Int:=fun _=>0
def pz:Pn:=⟨0,0,zS⟩
def hole:Pn:=⟨-1,-1,zS⟩
theorem undP:Tryz.prog.underlying 24=some (.struct (Tryz.prog.fieldsOf 24)):=by kernel_rfl
theorem sizeP(p:Pn):(Tryz.prog.info? 24).map (·.size)=some (pV p).length:=by rw[pL]; kernel_rfl
theorem sizeP'(p:Pn):(Tryz.prog.info? 24).map (·.size)=some (pV p).toArray.size:=by rw[pV_asize]; kernel_rfl
theorem zvP(w:World):(zeroValue 24).run Tryz.prog w=.ok (.agg (pV pz).toArray) w:=(zero_of_info (P:=Tryz.prog) (t:=24) (v:=.agg (pV pz).toArray) (n:=34) (by kernel_rfl)).1 w
theorem builtZ:Tryz.prog.built 24 []=some (pV pz).toArray:=by kernel_rfl
theorem builtH:Tryz.prog.built 24 [(0,.int .i64 (-1)),(1,.int .i64 (-1))]=some (pV hole).toArray:=by kernel_rfl
def eqP(p q:Pn):Bool:=(p.A == q.A) && ((p.B == q.B) && eqB 32 p.S q.S)
theorem eqP_same(p:Pn):eqP p p=true:=by simp[eqP,eqB_same]
theorem eqP_iff{p q:Pn}:eqP p q=true↔p.A=q.A∧p.B=q.B∧∀i,i < 32→p.S i=q.S i:=by simp[eqP,eqB_iff]
theorem part_s(X:Array Value)(off:Nat)(f:Nat→Int)(h:X.extract off (off+32)=Sha.arr 32 (Sha.vu8 f))(w:World):(part 22 X off).run Tryz.prog w=.ok (.agg (Sha.arr 32 (Sha.vu8 f))) w:=by
 obtain⟨i,hi⟩:∃i,Tryz.prog.info? 22=some i:=⟨_,rfl⟩
 have hc:Tryz.prog.cellsOf 22=32:=by kernel_rfl
 have hu:Tryz.prog.underlying 22=some (.array 32 5):=by kernel_rfl
 have hs:=run_sizeOf (P:=Tryz.prog) w hi
 rw[hc] at hs
 simp[part,isAgg,run_underlying hu,h]
theorem pV_extract(p:Pn):(pV p).toArray.extract 2 (2+32)=Sha.arr 32 (Sha.vu8 p.S):=by
 apply Array.ext_getElem?
 intro j
 by_cases hj:j < 32
 ·rw[Sha.arr_get _ hj]
  have:=pV_sum p hj
  rw[Array.getElem?_extract]
  simp only[List.size_toArray,pL]
  rw[if_pos (by omega)]
  simpa[Sha.vu8] using this
 ·rw[Array.getElem?_eq_none (by simp[pL]; omega),Array.getElem?_eq_none (by rw[Sha.arr_size]; omega)]
theorem part_sum(p:Pn)(w:World):(part 22 (pV p).toArray 2).run Tryz.prog w=.ok (.agg (Sha.arr 32 (Sha.vu8 p.S))) w:=part_s _ 2 _ (pV_extract p) w
theorem part_i(X:Array Value)(off:Nat)(z:Int)(h:X[off]?=some (.int .i64 z))(w:World):(part 3 X off).run Tryz.prog w=.ok (.int .i64 z) w:=run_part_plain w (by kernel_rfl) h
theorem eq_pt(p q:Pn)(w:World):(Op.equalIn 10000 24 (.agg (pV p).toArray) (.agg (pV q).toArray)).run Tryz.prog w=.ok (eqP p q) w:=by
 rw[run_equalIn_struct w 9999 24 _ _ (by kernel_rfl) (by kernel_rfl)]
 obtain ⟨f0, f1, f2, hf, t0, o0, n0, t1, o1, n1, t2, o2, n2⟩ : ∃ f0 f1 f2 : Field, (Tryz.prog.fieldsOf 24).toList = [f0, f1, f2] ∧ f0.type = 3 ∧ f0.offset = 0 ∧ (f0.name ≠ "_") ∧ f1.type = 3 ∧ f1.offset = 1 ∧ (f1.name ≠ "_") ∧ f2.type = 22 ∧ f2.offset = 2 ∧ (f2.name ≠ "_") := ⟨_, _, _, rfl, rfl, rfl, by decide, rfl, rfl, by decide, rfl, rfl, by decide⟩
 rw[hf]
 unfold eqP
 simp only[Op.eqFields,Sem.run_bind,Sem.run_ite,if_pos n0,if_pos n1,if_pos n2,t0,o0,t1,o1,t2,o2]
 rw[part_i (pV p).toArray 0 p.A rfl w,Result.andThen_ok,part_i (pV q).toArray 0 q.A rfl w,Result.andThen_ok,run_equalIn_int w 9998 _ .i64 .i64 _ _ (by kernel_rfl),Result.andThen_ok]
 cases h0:p.A == q.A with
 | false=>simp
 | true=>
  simp only[Bool.not_true,Bool.false_eq_true,if_false,Bool.true_and]
  rw[part_i (pV p).toArray 1 p.B rfl w,Result.andThen_ok,part_i (pV q).toArray 1 q.B rfl w,Result.andThen_ok,run_equalIn_int w 9998 _ .i64 .i64 _ _ (by kernel_rfl),Result.andThen_ok]
  cases h1:p.B == q.B with
  | false=>simp
  | true=>
   simp only[Bool.not_true,Bool.false_eq_true,if_false,Bool.true_and]
   rw[part_sum p w,Result.andThen_ok,part_sum q w,Result.andThen_ok,eqD_sum 9997,Result.andThen_ok]
   cases h2:eqB 32 p.S q.S with
   | false=>simp
   | true=>simp
theorem guardP:Tryz.prog.eqGuardType Tryz.prog.depth 24=false:=by kernel_rfl
theorem box_pt(w:World)(p:Pn):Below w.heap.size w (w.alloc (.cells (pV p).toArray 24))∧(w.alloc (.cells (pV p).toArray 24)).heap[w.heap.size]?=some (.cells (pV p).toArray 24 (0,0))∧(w.alloc (.cells (pV p).toArray 24)).heap.size=w.heap.size+1:=
 ⟨(Below.refl _ _).alloc (Nat.le_refl _) _,heap_alloc_new _ _,by simp⟩
theorem rP{w:World}{g:Nat}{p:Pn}{t:TypeId}(h:w.heap[g]?=some (.cells (pV p).toArray t (0,0))):w.rangeAt g 0 (pV p):=fun j v hv=>by
 rw[Nat.zero_add,cell_of_row w g j _ _ _ h]
 simpa using hv
theorem cA_pt{w:World}{g:Nat}{p:Pn}{t:TypeId}(h:w.heap[g]?=some (.cells (pV p).toArray t (0,0))):w.cell? ⟨g,0,none⟩=some (.int .i64 p.A):=by rw[cell_of_row w g 0 _ _ _ h]; rfl
theorem cB_pt{w:World}{g:Nat}{p:Pn}{t:TypeId}(h:w.heap[g]?=some (.cells (pV p).toArray t (0,0))):w.cell? ⟨g,1,none⟩=some (.int .i64 p.B):=by rw[cell_of_row w g 1 _ _ _ h]; rfl
theorem cS_pt{w:World}{g:Nat}{p:Pn}{t:TypeId}(h:w.heap[g]?=some (.cells (pV p).toArray t (0,0))){j:Nat}(hj:j < 32):w.cell? ⟨g,2+j,none⟩=some (.int .u8 (p.S j)):=by
 rw[cell_of_row w g (2+j) _ _ _ h]
 simpa using pV_sum p hj
theorem results_1p{tmps:Array Value}{w:World}{B:Nat}{p:Pn}{fn:Func}{s:Nat}(hf:fn.results=#[.cell s 24])(h2:tmps.getD s undef=.pointer (some ⟨B,0,none⟩))
  (kV:w.heap[B]?=some (.cells (pV p).toArray 24 (0,0))):(results fn tmps).run Tryz.prog w=.ok (.agg (pV p).toArray) w:=by
 have h2':tmps[s]?.getD undef=.pointer (some ⟨B,0,none⟩):=by simpa using h2
 have hv:=run_loadVar_row (P:=Tryz.prog) w B 24 24 (pV p).toArray (0,0) _ kV undP rfl (sizeP' p)
 simp[results,hf,h2',asAddr,hv]
theorem rTp{tmps:Array Value}{w:World}{B:Nat}{p:Pn}{e:Int}{fn:Func}{s r:Nat}(hf:fn.results=#[.cell s 24,.tmp r])(h4:tmps.getD s undef=.pointer (some ⟨B,0,none⟩))(h5:tmps.getD r undef=.int .i64 e)
  (kV:w.heap[B]?=some (.cells (pV p).toArray 24 (0,0))):(results fn tmps).run Tryz.prog w=.ok (.tuple #[.agg (pV p).toArray,.int .i64 e]) w:=by
 have h4':tmps[s]?.getD undef=.pointer (some ⟨B,0,none⟩):=by simpa using h4
 have h5':tmps[r]?.getD undef=.int .i64 e:=by simpa using h5
 have hv:=run_loadVar_row (P:=Tryz.prog) w B 24 24 (pV p).toArray (0,0) _ kV undP rfl (sizeP' p)
 simp[results,hf,h4',h5',asAddr,hv]
section
attribute [local go_sem] zvP
theorem hole_any(w:World):Calls Tryz.prog 88 #[] w fun e w'=>e=.returned (.agg (pV hole).toArray)∧Below w.heap.size w w':=by
 go_enter Tryz.func88,Tryz.ntmps88
 go_wp2_with (first
  | (refine wpList_buildTo rfl 24 #[(0,.const (.int .i64 (-1))),(1,.const (.int .i64 (-1)))] rfl _ rfl (pV hole).toArray builtH ?_; simp only[Act.put,aA])
  | (refine wpList_store_row rfl 24 (.tmp 0) (.tmp 1) rfl w.heap.size (pV hole).toArray rfl rfl 24 _ (heap_alloc_new w _) (sizeP' _) rfl (pV_all _) ?_; rw[World.setRow_alloc_new]; simp only[Act.put]))
 refine bodyPost_ret (results_1p rfl rfl (heap_alloc_new w _)) rfl ?_
 exact⟨rfl,(Below.refl _ _).alloc (Nat.le_refl _) _⟩
theorem refhole_any(w:World):Calls Tryz.prog 23 #[] w fun e w'=>e=.returned (.agg (pV hole).toArray)∧Below w.heap.size w w':=by
 go_enter Tryz.func23,Tryz.ntmps23
 go_wp2_with (first
  | (refine wpList_buildTo rfl 24 #[(0,.const (.int .i64 (-1))),(1,.const (.int .i64 (-1)))] rfl _ rfl (pV hole).toArray builtH ?_; simp only[Act.put,aA])
  | (refine wpList_store_row rfl 24 (.tmp 0) (.tmp 1) rfl w.heap.size (pV hole).toArray rfl rfl 24 _ (heap_alloc_new w _) (sizeP' _) rfl (pV_all _) ?_; rw[World.setRow_alloc_new]; simp only[Act.put]))
 refine bodyPost_ret (results_1p rfl rfl (heap_alloc_new w _)) rfl ?_
 exact⟨rfl,(Below.refl _ _).alloc (Nat.le_refl _) _⟩
end
def secB(n:Int):Bool:=decide (0≤n) && decide (n < 4096)
theorem secB_iff{n:Int}:secB n=true↔0≤n∧n < 4096:=by simp[secB]
theorem sector_any(n:Int)(w:World):Calls Tryz.prog 63 #[.int .i64 n] w fun e w'=>e=.returned (.bool (secB n))∧Below w.heap.size w w':=by
 by_cases h0:0≤n
 ·rw[show secB n=decide (n < 4096) by simp[secB,h0]]
  go_enter Tryz.func63,Tryz.ntmps63
  go_wp2_with fail
  go_ret
  exact⟨rfl,Below.refl _ _⟩
 ·rw[show secB n=false by simp[secB,h0]]
  go_enter Tryz.func63,Tryz.ntmps63
  go_wp2_with fail
  go_ret
  exact⟨rfl,Below.refl _ _⟩
theorem refsector_any(n:Int)(w:World):Calls Tryz.prog 64 #[.int .i64 n] w fun e w'=>e=.returned (.bool (secB n))∧Below w.heap.size w w':=by
 by_cases h0:0≤n
 ·rw[show secB n=decide (n≤4095) by rw[Bool.eq_iff_iff,secB_iff]; simp; omega]
  go_enter Tryz.func64,Tryz.ntmps64
  go_wp2_with fail
  go_ret
  exact⟨rfl,Below.refl _ _⟩
 ·rw[show secB n=false by simp[secB,h0]]
  go_enter Tryz.func64,Tryz.ntmps64
  go_wp2_with fail
  go_ret
  exact⟨rfl,Below.refl _ _⟩
def isHole(p:Pn):Bool:=eqP p hole
def rightB(p:Pn):Bool:=isHole p || (secB p.A && (p.B == -1 || (secB p.B && p.B != p.A)))
theorem ishole_any(p:Pn)(w:World):Calls Tryz.prog 62 #[.agg (pV p).toArray] w fun e w'=>e=.returned (.bool (isHole p))∧Below w.heap.size w w':=by
 obtain⟨hb0,hx0,hs0⟩:=box_pt w p
 go_enter Tryz.func62,Tryz.ntmps62
 go_wp2_with fail
 generalize w.alloc (.cells (pV p).toArray 24)=W at hb0 hx0 hs0 ⊢
 have HR:=Lib.hid (fun w' (hw':Below W.heap.size W w')=>rP ((hw'.block w.heap.size (by omega)).trans hx0))
 clear hx0
 refine wp_region_quiet (C:=fun w'=>Below W.heap.size W w') (by kernel_rfl) (by kernel_rfl) ⟨rfl,rfl,rfl,Nat.le_refl _,fun _ _=>rfl⟩ ?_
 refine q_loadB 24 (.tmp 1) rfl rfl w.heap.size 0 rfl (pV p) _ (fun w' hw'=>HR.out w' hw') undP rfl (sizeP p) ?_
 simp only[Act.put,aA]
 refine q_call 88 _ (.agg (pV hole).toArray) rfl (fun w'=>by go_simp) (fun w' hw'=>(hole_any w').mono fun e w'' ⟨he,hb⟩=>⟨he,hw'.trans (hb.mono hw'.size)⟩) ?_
 simp only[Act.put,aA]
 refine q_eqlV 24 _ (.tmp 3) (.tmp 4) rfl rfl (pV p).toArray (pV hole).toArray rfl rfl (isHole p) guardP (fun w' _=>eq_pt p hole w') ?_
 simp only[Act.put,aA]
 refine q_val (.bool (isHole p)) rfl (fun w' hw'=>by go_simp) ?_
 simp only[Act.put,aA]
 refine wpQuiet_nil ?_
 intro w' hw'
 go_wp2_with fail
 go_ret
 exact⟨rfl,hb0.trans (hw'.mono (by omega))⟩
end Pt
namespace Pt
open Go.RowKit Dk Eqb Byt
attribute [local irreducible] wpQuiet
theorem right_any(p:Pn)(w:World):Calls Tryz.prog 25 #[.agg (pV p).toArray] w fun e w'=>e=.returned (.bool (rightB p))∧Below w.heap.size w w':=by
 obtain⟨hb0,hx0,hs0⟩:=box_pt w p
 have HV:Hid (rightB p=(isHole p || (secB p.A && (p.B == -1 || (secB p.B && p.B != p.A))))):=Lib.hid rfl
 have HI:=Lib.hid (fun W=>ishole_any p W)
 have HA:=Lib.hid (fun W=>sector_any p.A W)
 have HB:=Lib.hid (fun W=>sector_any p.B W)
 generalize rightB p=V at HV ⊢
 generalize isHole p=h at HV HI
 generalize secB p.A=sa at HV HA
 generalize secB p.B=sb at HV HB
 cases h with
 | true=>
  go_enter Tryz.func25,Tryz.ntmps25
  go_wp2_with (refine wpList_load_mid rfl 24 (.tmp 1) rfl w.heap.size 0 rfl (pV p) _ (rP (heap_alloc_new w _)) undP rfl (sizeP p) ?_; simp only[Act.put,aA])
  generalize w.alloc (.cells (pV p).toArray 24)=W at hb0 hx0 hs0 ⊢
  refine(HI.out _).mono ?_
  rintro _ w1 ⟨rfl,hb1⟩
  have hx1:=(hb1.block w.heap.size (by omega)).trans hx0
  have hB1:=hb0.trans (hb1.mono (by omega))
  have hs1:=hb1.size
  have cA:=cA_pt hx1
  have cB:=cB_pt hx1
  dsimp only
  go_wp2_with fail
  go_ret
  exact⟨by rw[HV.out]; simp,hB1⟩
 | false=>
  cases sa with
  | false=>
   go_enter Tryz.func25,Tryz.ntmps25
   go_wp2_with (refine wpList_load_mid rfl 24 (.tmp 1) rfl w.heap.size 0 rfl (pV p) _ (rP (heap_alloc_new w _)) undP rfl (sizeP p) ?_; simp only[Act.put,aA])
   generalize w.alloc (.cells (pV p).toArray 24)=W at hb0 hx0 hs0 ⊢
   refine(HI.out _).mono ?_
   rintro _ w1 ⟨rfl,hb1⟩
   have hx1:=(hb1.block w.heap.size (by omega)).trans hx0
   have hB1:=hb0.trans (hb1.mono (by omega))
   have hs1:=hb1.size
   have cA:=cA_pt hx1
   have cB:=cB_pt hx1
   dsimp only
   go_wp2_with fail
   refine(HA.out _).mono ?_
   rintro _ w2 ⟨rfl,hb2⟩
   have hB2:=hB1.trans (hb2.mono hB1.size)
   dsimp only
   go_wp2_with fail
   go_ret
   exact⟨by rw[HV.out]; simp,hB2⟩
  | true=>
   by_cases e:p.B = -1
   ·have e':(p.B == -1)=true:=by simpa using e
    go_enter Tryz.func25,Tryz.ntmps25
    go_wp2_with (refine wpList_load_mid rfl 24 (.tmp 1) rfl w.heap.size 0 rfl (pV p) _ (rP (heap_alloc_new w _)) undP rfl (sizeP p) ?_; simp only[Act.put,aA])
    generalize w.alloc (.cells (pV p).toArray 24)=W at hb0 hx0 hs0 ⊢
    refine(HI.out _).mono ?_
    rintro _ w1 ⟨rfl,hb1⟩
    have hx1:=(hb1.block w.heap.size (by omega)).trans hx0
    have hB1:=hb0.trans (hb1.mono (by omega))
    have hs1:=hb1.size
    have cA:=cA_pt hx1
    have cB:=cB_pt hx1
    dsimp only
    go_wp2_with fail
    refine(HA.out _).mono ?_
    rintro _ w2 ⟨rfl,hb2⟩
    have hB2:=hB1.trans (hb2.mono hB1.size)
    have cB2:=(hb2.cell (p:=⟨w.heap.size,1,none⟩) (show w.heap.size < w1.heap.size by omega)).trans cB
    clear cA cB hx1 hx0
    dsimp only
    go_wp2_with fail
    go_ret
    exact⟨by rw[HV.out]; simp[e'],hB2⟩
   ·have e':(p.B == -1)=false:=by simpa using e
    cases sb with
    | false=>
     go_enter Tryz.func25,Tryz.ntmps25
     go_wp2_with (refine wpList_load_mid rfl 24 (.tmp 1) rfl w.heap.size 0 rfl (pV p) _ (rP (heap_alloc_new w _)) undP rfl (sizeP p) ?_; simp only[Act.put,aA])
     generalize w.alloc (.cells (pV p).toArray 24)=W at hb0 hx0 hs0 ⊢
     refine(HI.out _).mono ?_
     rintro _ w1 ⟨rfl,hb1⟩
     have hx1:=(hb1.block w.heap.size (by omega)).trans hx0
     have hB1:=hb0.trans (hb1.mono (by omega))
     have hs1:=hb1.size
     have cA:=cA_pt hx1
     have cB:=cB_pt hx1
     dsimp only
     go_wp2_with fail
     refine(HA.out _).mono ?_
     rintro _ w2 ⟨rfl,hb2⟩
     have hB2:=hB1.trans (hb2.mono hB1.size)
     have hs2:=hb2.size
     have cA2:=(hb2.cell (p:=⟨w.heap.size,0,none⟩) (show w.heap.size < w1.heap.size by omega)).trans cA
     have cB2:=(hb2.cell (p:=⟨w.heap.size,1,none⟩) (show w.heap.size < w1.heap.size by omega)).trans cB
     clear cA cB hx1 hx0
     dsimp only
     go_wp2_with fail
     refine(HB.out _).mono ?_
     rintro _ w3 ⟨rfl,hb3⟩
     have hB3:=hB2.trans (hb3.mono hB2.size)
     have cA3:=(hb3.cell (p:=⟨w.heap.size,0,none⟩) (show w.heap.size < w2.heap.size by omega)).trans cA2
     have cB3:=(hb3.cell (p:=⟨w.heap.size,1,none⟩) (show w.heap.size < w2.heap.size by omega)).trans cB2
     clear cA2 cB2
     dsimp only
     go_wp2_with fail
     go_ret
     exact⟨by rw[HV.out]; simp[e'],hB3⟩
    | true=>
     go_enter Tryz.func25,Tryz.ntmps25
     go_wp2_with (refine wpList_load_mid rfl 24 (.tmp 1) rfl w.heap.size 0 rfl (pV p) _ (rP (heap_alloc_new w _)) undP rfl (sizeP p) ?_; simp only[Act.put,aA])
     generalize w.alloc (.cells (pV p).toArray 24)=W at hb0 hx0 hs0 ⊢
     refine(HI.out _).mono ?_
     rintro _ w1 ⟨rfl,hb1⟩
     have hx1:=(hb1.block w.heap.size (by omega)).trans hx0
     have hB1:=hb0.trans (hb1.mono (by omega))
     have hs1:=hb1.size
     have cA:=cA_pt hx1
     have cB:=cB_pt hx1
     dsimp only
     go_wp2_with fail
     refine(HA.out _).mono ?_
     rintro _ w2 ⟨rfl,hb2⟩
     have hB2:=hB1.trans (hb2.mono hB1.size)
     have hs2:=hb2.size
     have cA2:=(hb2.cell (p:=⟨w.heap.size,0,none⟩) (show w.heap.size < w1.heap.size by omega)).trans cA
     have cB2:=(hb2.cell (p:=⟨w.heap.size,1,none⟩) (show w.heap.size < w1.heap.size by omega)).trans cB
     clear cA cB hx1 hx0
     dsimp only
     go_wp2_with fail
     refine(HB.out _).mono ?_
     rintro _ w3 ⟨rfl,hb3⟩
     have hB3:=hB2.trans (hb3.mono hB2.size)
     have cA3:=(hb3.cell (p:=⟨w.heap.size,0,none⟩) (show w.heap.size < w2.heap.size by omega)).trans cA2
     have cB3:=(hb3.cell (p:=⟨w.heap.size,1,none⟩) (show w.heap.size < w2.heap.size by omega)).trans cB2
     clear cA2 cB2
     dsimp only
     go_wp2_with fail
     go_ret
     exact⟨by rw[HV.out]; simp[e'],hB3⟩
theorem refright_any(p:Pn)(w:World):Calls Tryz.prog 28 #[.agg (pV p).toArray] w fun e w'=>e=.returned (.bool (rightB p))∧Below w.heap.size w w':=by
 obtain⟨hb0,hx0,hs0⟩:=box_pt w p
 have HV:Hid (rightB p=(isHole p || (secB p.A && (p.B == -1 || (secB p.B && p.B != p.A))))):=Lib.hid rfl
 have HE:=Lib.hid (fun W=>eq_pt p hole W)
 rw[show eqP p hole=isHole p from rfl] at HE
 have HA:=Lib.hid (fun W=>refsector_any p.A W)
 have HB:=Lib.hid (fun W=>refsector_any p.B W)
 generalize rightB p=V at HV ⊢
 generalize isHole p=h at HV HE
 generalize secB p.A=sa at HV HA
 generalize secB p.B=sb at HV HB
 go_enter Tryz.func28,Tryz.ntmps28
 go_wp2_with fail
 generalize w.alloc (.cells (pV p).toArray 24)=W at hb0 hx0 hs0 ⊢
 have HX:=Lib.hid (fun w' (hw':Below W.heap.size W w')=>(hw'.block w.heap.size (by omega)).trans hx0)
 clear hx0
 refine wp_region_quiet (C:=fun w'=>Below W.heap.size W w') (by kernel_rfl) (by kernel_rfl) ⟨rfl,rfl,rfl,Nat.le_refl _,fun _ _=>rfl⟩ ?_
 cases h with
 | true=>
  refine q_loadB 24 (.tmp 1) rfl rfl w.heap.size 0 rfl (pV p) _ (fun w' hw'=>rP (HX.out w' hw')) undP rfl (sizeP p) ?_
  simp only[Act.put,aA]
  refine q_call 23 _ (.agg (pV hole).toArray) rfl (fun w'=>by go_simp) (fun w' hw'=>(refhole_any w').mono fun e w'' ⟨he,hb⟩=>⟨he,hw'.trans (hb.mono hw'.size)⟩) ?_
  simp only[Act.put,aA]
  refine q_eqlV 24 _ (.tmp 3) (.tmp 4) rfl rfl ((pV p).toArray) ((pV hole).toArray) rfl rfl true guardP (fun w' _=>HE.out w') ?_
  simp only[Act.put,aA]
  refine q_move _ rfl rfl ?_
  simp only[Act.put,aA]
  refine BigFrame.wpQuiet_skip (by kernel_rfl) ?_
  simp only[Act.put,aA]
  refine BigFrame.wpQuiet_skip (by kernel_rfl) ?_
  simp only[Act.put,aA]
  refine BigFrame.wpQuiet_skip (by kernel_rfl) ?_
  simp only[Act.put,aA]
  refine BigFrame.wpQuiet_skip (by kernel_rfl) ?_
  simp only[Act.put,aA]
  refine BigFrame.wpQuiet_skip (by kernel_rfl) ?_
  simp only[Act.put,aA]
  refine BigFrame.wpQuiet_skip (by kernel_rfl) ?_
  simp only[Act.put,aA]
  refine BigFrame.wpQuiet_skip (by kernel_rfl) ?_
  simp only[Act.put,aA]
  refine BigFrame.wpQuiet_skip (by kernel_rfl) ?_
  simp only[Act.put,aA]
  refine BigFrame.wpQuiet_skip (by kernel_rfl) ?_
  simp only[Act.put,aA]
  refine BigFrame.wpQuiet_skip (by kernel_rfl) ?_
  simp only[Act.put,aA]
  refine BigFrame.wpQuiet_skip (by kernel_rfl) ?_
  simp only[Act.put,aA]
  refine BigFrame.wpQuiet_skip (by kernel_rfl) ?_
  simp only[Act.put,aA]
  refine BigFrame.wpQuiet_skip (by kernel_rfl) ?_
  simp only[Act.put,aA]
  refine BigFrame.wpQuiet_skip (by kernel_rfl) ?_
  simp only[Act.put,aA]
  refine BigFrame.wpQuiet_skip (by kernel_rfl) ?_
  simp only[Act.put,aA]
  refine BigFrame.wpQuiet_skip (by kernel_rfl) ?_
  simp only[Act.put,aA]
  refine BigFrame.wpQuiet_skip (by kernel_rfl) ?_
  simp only[Act.put,aA]
  refine BigFrame.wpQuiet_skip (by kernel_rfl) ?_
  simp only[Act.put,aA]
  refine BigFrame.wpQuiet_skip (by kernel_rfl) ?_
  simp only[Act.put,aA]
  refine BigFrame.wpQuiet_skip (by kernel_rfl) ?_
  simp only[Act.put,aA]
  refine q_val (.bool true) rfl (fun w' hw'=>by go_simp) ?_
  simp only[Act.put,aA]
  refine q_val (.bool true) rfl (fun w' hw'=>by go_simp) ?_
  simp only[Act.put,aA]
  refine wpQuiet_nil ?_
  intro w' hw'
  go_wp2_with fail
  go_ret
  exact⟨by rw[HV.out]; simp,hb0.trans (hw'.mono (by omega))⟩
 | false=>
  cases sa with
  | false=>
   refine q_loadB 24 (.tmp 1) rfl rfl w.heap.size 0 rfl (pV p) _ (fun w' hw'=>rP (HX.out w' hw')) undP rfl (sizeP p) ?_
   simp only[Act.put,aA]
   refine q_call 23 _ (.agg (pV hole).toArray) rfl (fun w'=>by go_simp) (fun w' hw'=>(refhole_any w').mono fun e w'' ⟨he,hb⟩=>⟨he,hw'.trans (hb.mono hw'.size)⟩) ?_
   simp only[Act.put,aA]
   refine q_eqlV 24 _ (.tmp 3) (.tmp 4) rfl rfl ((pV p).toArray) ((pV hole).toArray) rfl rfl false guardP (fun w' _=>HE.out w') ?_
   simp only[Act.put,aA]
   refine q_move _ rfl rfl ?_
   simp only[Act.put,aA]
   refine q_val (.pointer (some ⟨w.heap.size,0,none⟩)) (by kernel_rfl) (fun w' hw'=>by go_simp) ?_
   simp only[Act.put,aA]
   refine q_val (.int .i64 p.A) (by kernel_rfl) (fun w' hw'=>by have k:=cA_pt (HX.out w' hw'); go_simp) ?_
   simp only[Act.put,aA]
   refine q_call 64 _ (.bool false) (by kernel_rfl) (fun w'=>by go_simp) (fun w' hw'=>(HA.out w').mono fun e w'' ⟨he,hb⟩=>⟨he,hw'.trans (hb.mono hw'.size)⟩) ?_
   simp only[Act.put,aA]
   refine q_move _ rfl (by kernel_rfl) ?_
   simp only[Act.put,aA]
   refine BigFrame.wpQuiet_skip (by kernel_rfl) ?_
   simp only[Act.put,aA]
   refine BigFrame.wpQuiet_skip (by kernel_rfl) ?_
   simp only[Act.put,aA]
   refine BigFrame.wpQuiet_skip (by kernel_rfl) ?_
   simp only[Act.put,aA]
   refine BigFrame.wpQuiet_skip (by kernel_rfl) ?_
   simp only[Act.put,aA]
   refine BigFrame.wpQuiet_skip (by kernel_rfl) ?_
   simp only[Act.put,aA]
   refine BigFrame.wpQuiet_skip (by kernel_rfl) ?_
   simp only[Act.put,aA]
   refine BigFrame.wpQuiet_skip (by kernel_rfl) ?_
   simp only[Act.put,aA]
   refine BigFrame.wpQuiet_skip (by kernel_rfl) ?_
   simp only[Act.put,aA]
   refine BigFrame.wpQuiet_skip (by kernel_rfl) ?_
   simp only[Act.put,aA]
   refine BigFrame.wpQuiet_skip (by kernel_rfl) ?_
   simp only[Act.put,aA]
   refine BigFrame.wpQuiet_skip (by kernel_rfl) ?_
   simp only[Act.put,aA]
   refine BigFrame.wpQuiet_skip (by kernel_rfl) ?_
   simp only[Act.put,aA]
   refine BigFrame.wpQuiet_skip (by kernel_rfl) ?_
   simp only[Act.put,aA]
   refine BigFrame.wpQuiet_skip (by kernel_rfl) ?_
   simp only[Act.put,aA]
   refine BigFrame.wpQuiet_skip (by kernel_rfl) ?_
   simp only[Act.put,aA]
   refine q_val (.bool false) (by kernel_rfl) (fun w' hw'=>by go_simp) ?_
   simp only[Act.put,aA]
   refine q_val (.bool false) rfl (fun w' hw'=>by go_simp) ?_
   simp only[Act.put,aA]
   refine q_val (.bool false) rfl (fun w' hw'=>by go_simp) ?_
   simp only[Act.put,aA]
   refine wpQuiet_nil ?_
   intro w' hw'
   go_wp2_with fail
   go_ret
   exact⟨by rw[HV.out]; simp,hb0.trans (hw'.mono (by omega))⟩
  | true=>
   by_cases e:p.B = -1
   ·have e':(p.B == -1)=true:=by simpa using e
    refine q_loadB 24 (.tmp 1) rfl rfl w.heap.size 0 rfl (pV p) _ (fun w' hw'=>rP (HX.out w' hw')) undP rfl (sizeP p) ?_
    simp only[Act.put,aA]
    refine q_call 23 _ (.agg (pV hole).toArray) rfl (fun w'=>by go_simp) (fun w' hw'=>(refhole_any w').mono fun e w'' ⟨he,hb⟩=>⟨he,hw'.trans (hb.mono hw'.size)⟩) ?_
    simp only[Act.put,aA]
    refine q_eqlV 24 _ (.tmp 3) (.tmp 4) rfl rfl ((pV p).toArray) ((pV hole).toArray) rfl rfl false guardP (fun w' _=>HE.out w') ?_
    simp only[Act.put,aA]
    refine q_move _ rfl rfl ?_
    simp only[Act.put,aA]
    refine q_val (.pointer (some ⟨w.heap.size,0,none⟩)) (by kernel_rfl) (fun w' hw'=>by go_simp) ?_
    simp only[Act.put,aA]
    refine q_val (.int .i64 p.A) (by kernel_rfl) (fun w' hw'=>by have k:=cA_pt (HX.out w' hw'); go_simp) ?_
    simp only[Act.put,aA]
    refine q_call 64 _ (.bool true) (by kernel_rfl) (fun w'=>by go_simp) (fun w' hw'=>(HA.out w').mono fun e w'' ⟨he,hb⟩=>⟨he,hw'.trans (hb.mono hw'.size)⟩) ?_
    simp only[Act.put,aA]
    refine q_move _ rfl (by kernel_rfl) ?_
    simp only[Act.put,aA]
    refine q_val (.pointer (some ⟨w.heap.size,1,none⟩)) (by kernel_rfl) (fun w' hw'=>by go_simp) ?_
    simp only[Act.put,aA]
    refine q_val (.int .i64 p.B) (by kernel_rfl) (fun w' hw'=>by have k:=cB_pt (HX.out w' hw'); go_simp) ?_
    simp only[Act.put,aA]
    refine q_val (.bool true) (by kernel_rfl) (fun w' hw'=>by go_simp) ?_
    simp only[Act.put,aA]
    refine q_move _ rfl (by kernel_rfl) ?_
    simp only[Act.put,aA]
    refine BigFrame.wpQuiet_skip (by kernel_rfl) ?_
    simp only[Act.put,aA]
    refine BigFrame.wpQuiet_skip (by kernel_rfl) ?_
    simp only[Act.put,aA]
    refine BigFrame.wpQuiet_skip (by kernel_rfl) ?_
    simp only[Act.put,aA]
    refine BigFrame.wpQuiet_skip (by kernel_rfl) ?_
    simp only[Act.put,aA]
    refine BigFrame.wpQuiet_skip (by kernel_rfl) ?_
    simp only[Act.put,aA]
    refine BigFrame.wpQuiet_skip (by kernel_rfl) ?_
    simp only[Act.put,aA]
    refine BigFrame.wpQuiet_skip (by kernel_rfl) ?_
    simp only[Act.put,aA]
    refine BigFrame.wpQuiet_skip (by kernel_rfl) ?_
    simp only[Act.put,aA]
    refine BigFrame.wpQuiet_skip (by kernel_rfl) ?_
    simp only[Act.put,aA]
    refine BigFrame.wpQuiet_skip (by kernel_rfl) ?_
    simp only[Act.put,aA]
    refine q_val (.bool true) (by kernel_rfl) (fun w' hw'=>by go_simp) ?_
    simp only[Act.put,aA]
    refine q_val (.bool true) (by kernel_rfl) (fun w' hw'=>by go_simp) ?_
    simp only[Act.put,aA]
    refine q_val (.bool true) rfl (fun w' hw'=>by go_simp) ?_
    simp only[Act.put,aA]
    refine q_val (.bool true) rfl (fun w' hw'=>by go_simp) ?_
    simp only[Act.put,aA]
    refine wpQuiet_nil ?_
    intro w' hw'
    go_wp2_with fail
    go_ret
    exact⟨by rw[HV.out]; simp[e'],hb0.trans (hw'.mono (by omega))⟩
   ·have e':(p.B == -1)=false:=by simpa using e
    cases sb with
    | false=>
     refine q_loadB 24 (.tmp 1) rfl rfl w.heap.size 0 rfl (pV p) _ (fun w' hw'=>rP (HX.out w' hw')) undP rfl (sizeP p) ?_
     simp only[Act.put,aA]
     refine q_call 23 _ (.agg (pV hole).toArray) rfl (fun w'=>by go_simp) (fun w' hw'=>(refhole_any w').mono fun e w'' ⟨he,hb⟩=>⟨he,hw'.trans (hb.mono hw'.size)⟩) ?_
     simp only[Act.put,aA]
     refine q_eqlV 24 _ (.tmp 3) (.tmp 4) rfl rfl ((pV p).toArray) ((pV hole).toArray) rfl rfl false guardP (fun w' _=>HE.out w') ?_
     simp only[Act.put,aA]
     refine q_move _ rfl rfl ?_
     simp only[Act.put,aA]
     refine q_val (.pointer (some ⟨w.heap.size,0,none⟩)) (by kernel_rfl) (fun w' hw'=>by go_simp) ?_
     simp only[Act.put,aA]
     refine q_val (.int .i64 p.A) (by kernel_rfl) (fun w' hw'=>by have k:=cA_pt (HX.out w' hw'); go_simp) ?_
     simp only[Act.put,aA]
     refine q_call 64 _ (.bool true) (by kernel_rfl) (fun w'=>by go_simp) (fun w' hw'=>(HA.out w').mono fun e w'' ⟨he,hb⟩=>⟨he,hw'.trans (hb.mono hw'.size)⟩) ?_
     simp only[Act.put,aA]
     refine q_move _ rfl (by kernel_rfl) ?_
     simp only[Act.put,aA]
     refine q_val (.pointer (some ⟨w.heap.size,1,none⟩)) (by kernel_rfl) (fun w' hw'=>by go_simp) ?_
     simp only[Act.put,aA]
     refine q_val (.int .i64 p.B) (by kernel_rfl) (fun w' hw'=>by have k:=cB_pt (HX.out w' hw'); go_simp) ?_
     simp only[Act.put,aA]
     refine q_val (.bool false) (by kernel_rfl) (fun w' hw'=>by go_simp) ?_
     simp only[Act.put,aA]
     refine q_move _ rfl (by kernel_rfl) ?_
     simp only[Act.put,aA]
     refine q_val (.pointer (some ⟨w.heap.size,1,none⟩)) (by kernel_rfl) (fun w' hw'=>by go_simp) ?_
     simp only[Act.put,aA]
     refine q_val (.int .i64 p.B) (by kernel_rfl) (fun w' hw'=>by have k:=cB_pt (HX.out w' hw'); go_simp) ?_
     simp only[Act.put,aA]
     refine q_call 64 _ (.bool false) (by kernel_rfl) (fun w'=>by go_simp) (fun w' hw'=>(HB.out w').mono fun e w'' ⟨he,hb⟩=>⟨he,hw'.trans (hb.mono hw'.size)⟩) ?_
     simp only[Act.put,aA]
     refine q_move _ rfl (by kernel_rfl) ?_
     simp only[Act.put,aA]
     refine BigFrame.wpQuiet_skip (by kernel_rfl) ?_
     simp only[Act.put,aA]
     refine BigFrame.wpQuiet_skip (by kernel_rfl) ?_
     simp only[Act.put,aA]
     refine BigFrame.wpQuiet_skip (by kernel_rfl) ?_
     simp only[Act.put,aA]
     refine BigFrame.wpQuiet_skip (by kernel_rfl) ?_
     simp only[Act.put,aA]
     refine BigFrame.wpQuiet_skip (by kernel_rfl) ?_
     simp only[Act.put,aA]
     refine q_val (.bool false) (by kernel_rfl) (fun w' hw'=>by go_simp) ?_
     simp only[Act.put,aA]
     refine q_val (.bool false) (by kernel_rfl) (fun w' hw'=>by go_simp) ?_
     simp only[Act.put,aA]
     refine q_val (.bool false) (by kernel_rfl) (fun w' hw'=>by go_simp) ?_
     simp only[Act.put,aA]
     refine q_val (.bool false) rfl (fun w' hw'=>by go_simp) ?_
     simp only[Act.put,aA]
     refine q_val (.bool false) rfl (fun w' hw'=>by go_simp) ?_
     simp only[Act.put,aA]
     refine wpQuiet_nil ?_
     intro w' hw'
     go_wp2_with fail
     go_ret
     exact⟨by rw[HV.out]; simp[e'],hb0.trans (hw'.mono (by omega))⟩
    | true=>
     refine q_loadB 24 (.tmp 1) rfl rfl w.heap.size 0 rfl (pV p) _ (fun w' hw'=>rP (HX.out w' hw')) undP rfl (sizeP p) ?_
     simp only[Act.put,aA]
     refine q_call 23 _ (.agg (pV hole).toArray) rfl (fun w'=>by go_simp) (fun w' hw'=>(refhole_any w').mono fun e w'' ⟨he,hb⟩=>⟨he,hw'.trans (hb.mono hw'.size)⟩) ?_
     simp only[Act.put,aA]
     refine q_eqlV 24 _ (.tmp 3) (.tmp 4) rfl rfl ((pV p).toArray) ((pV hole).toArray) rfl rfl false guardP (fun w' _=>HE.out w') ?_
     simp only[Act.put,aA]
     refine q_move _ rfl rfl ?_
     simp only[Act.put,aA]
     refine q_val (.pointer (some ⟨w.heap.size,0,none⟩)) (by kernel_rfl) (fun w' hw'=>by go_simp) ?_
     simp only[Act.put,aA]
     refine q_val (.int .i64 p.A) (by kernel_rfl) (fun w' hw'=>by have k:=cA_pt (HX.out w' hw'); go_simp) ?_
     simp only[Act.put,aA]
     refine q_call 64 _ (.bool true) (by kernel_rfl) (fun w'=>by go_simp) (fun w' hw'=>(HA.out w').mono fun e w'' ⟨he,hb⟩=>⟨he,hw'.trans (hb.mono hw'.size)⟩) ?_
     simp only[Act.put,aA]
     refine q_move _ rfl (by kernel_rfl) ?_
     simp only[Act.put,aA]
     refine q_val (.pointer (some ⟨w.heap.size,1,none⟩)) (by kernel_rfl) (fun w' hw'=>by go_simp) ?_
     simp only[Act.put,aA]
     refine q_val (.int .i64 p.B) (by kernel_rfl) (fun w' hw'=>by have k:=cB_pt (HX.out w' hw'); go_simp) ?_
     simp only[Act.put,aA]
     refine q_val (.bool false) (by kernel_rfl) (fun w' hw'=>by go_simp) ?_
     simp only[Act.put,aA]
     refine q_move _ rfl (by kernel_rfl) ?_
     simp only[Act.put,aA]
     refine q_val (.pointer (some ⟨w.heap.size,1,none⟩)) (by kernel_rfl) (fun w' hw'=>by go_simp) ?_
     simp only[Act.put,aA]
     refine q_val (.int .i64 p.B) (by kernel_rfl) (fun w' hw'=>by have k:=cB_pt (HX.out w' hw'); go_simp) ?_
     simp only[Act.put,aA]
     refine q_call 64 _ (.bool true) (by kernel_rfl) (fun w'=>by go_simp) (fun w' hw'=>(HB.out w').mono fun e w'' ⟨he,hb⟩=>⟨he,hw'.trans (hb.mono hw'.size)⟩) ?_
     simp only[Act.put,aA]
     refine q_move _ rfl (by kernel_rfl) ?_
     simp only[Act.put,aA]
     refine q_val (.pointer (some ⟨w.heap.size,1,none⟩)) (by kernel_rfl) (fun w' hw'=>by go_simp) ?_
     simp only[Act.put,aA]
     refine q_val (.int .i64 p.B) (by kernel_rfl) (fun w' hw'=>by have k:=cB_pt (HX.out w' hw'); go_simp) ?_
     simp only[Act.put,aA]
     refine q_val (.pointer (some ⟨w.heap.size,0,none⟩)) (by kernel_rfl) (fun w' hw'=>by go_simp) ?_
     simp only[Act.put,aA]
     refine q_val (.int .i64 p.A) (by kernel_rfl) (fun w' hw'=>by have k:=cA_pt (HX.out w' hw'); go_simp) ?_
     simp only[Act.put,aA]
     refine q_val (.bool (p.B != p.A)) (by kernel_rfl) (fun w' hw'=>by go_simp) ?_
     simp only[Act.put,aA]
     refine q_val (.bool (p.B != p.A)) (by kernel_rfl) (fun w' hw'=>by go_simp) ?_
     simp only[Act.put,aA]
     refine q_val (.bool (p.B != p.A)) (by kernel_rfl) (fun w' hw'=>by go_simp) ?_
     simp only[Act.put,aA]
     refine q_val (.bool (p.B != p.A)) (by kernel_rfl) (fun w' hw'=>by go_simp) ?_
     simp only[Act.put,aA]
     refine q_val (.bool (p.B != p.A)) rfl (fun w' hw'=>by go_simp) ?_
     simp only[Act.put,aA]
     refine q_val (.bool (p.B != p.A)) rfl (fun w' hw'=>by go_simp) ?_
     simp only[Act.put,aA]
     refine wpQuiet_nil ?_
     intro w' hw'
     go_wp2_with fail
     go_ret
     exact⟨by rw[HV.out]; simp[e'],hb0.trans (hw'.mono (by omega))⟩
end Pt
namespace Pt
open Go.RowKit Dk Eqb Byt
def Kp(w:World):Prop:=(∀k,k < 64→w.cell? ⟨0,k,none⟩=some (.int .u32 (Sha.kT k)))∧0 < w.heap.size
theorem Kp.below{w w':World}(h:Kp w)(hb:Below w.heap.size w w'):Kp w':=⟨fun k hk=>(hb.cell (p:=⟨0,k,none⟩) h.2).trans (h.1 k hk),Nat.lt_of_lt_of_le h.2 hb.size⟩
def Bytes(f:Nat→Int):Prop:=∀i,i < 128→0≤f i∧f i < 256
theorem row_of{w:World}{g:Nat}{f:Nat→Int}{t:TypeId}(h:w.heap[g]?=some (.cells (bl f).toArray t (0,0))):Row w g 0 128 f:=
 ⟨⟨_,⟨_,h⟩,fun j hj=>by
  rw[Nat.zero_add]
  have:=bl_get f hj
  simpa using this⟩⟩
theorem row_range{w:World}{g:Nat}{f:Nat→Int}(h:Row w g 0 128 f):w.rangeAt g 0 (bl f):=fun j v hv=>by
 have hj:j < 128:=by
  have:=(List.getElem?_eq_some_iff.1 hv).1
  rwa [bL] at this
 rw[h.cell hj]
 rw[bl_get f hj] at hv
 exact hv
theorem sha_lies{w:World}{g B:Nat}{f:Nat→Int}(hr:Row w g 0 128 f)(hB:g < B):Sha.Lies w B (some ⟨g,0,none⟩) 128 (tab 128 f):=
 ⟨by simp,(fun e=>by cases e),fun _=>⟨g,0,rfl,hB,fun i hi=>by
  have hi':i < 128:=by simpa using hi
  rw[hr.cell hi',tab_getD 128 f hi']⟩⟩
def sumD(D:Nat→Int):Nat→Int:=Sha.sumB (Sha.sumS (tab 128 D))
theorem sum_row{w:World}{g:Nat}{D:Nat→Int}(hr:Row w g 0 128 D)(hD:Bytes D)(hk:Kp w) :
  Calls Tryz.prog 119 #[.slice (some ⟨g,0,none⟩) 128 128] w fun e w'=>e=.returned (.agg (Sha.arr 32 (Sha.vu8 (sumD D))))∧Below w.heap.size w w':=
 Sha.sum_any 128 (some ⟨g,0,none⟩) 128 (tab 128 D) w (by simp) (sha_lies hr hr.lt) (byte_tab hD) (by omega) hk.1 hk.2
theorem right_neg{c:Int}{q:Nat→Int}{a:Int}(h:a = -1)(hr:rightB ⟨a,c,q⟩=true):isHole ⟨a,c,q⟩=true:=by
 subst h
 simpa[rightB,secB] using hr
def ofV(D:Nat→Int)(a c:Int):Pn:=if isHole ⟨a,c,sumD D⟩=false∧rightB ⟨a,c,sumD D⟩=true then ⟨a,c,sumD D⟩ else pz
def ofE(D:Nat→Int)(a c:Int):Int:=if isHole ⟨a,c,sumD D⟩=false∧rightB ⟨a,c,sumD D⟩=true then 0 else 1
theorem zrow:(#[.int .i64 0,.int .i64 0,.int .u8 0,.int .u8 0,.int .u8 0,.int .u8 0,.int .u8 0,.int .u8 0,.int .u8 0,.int .u8 0,.int .u8 0,.int .u8 0,.int .u8 0,.int .u8 0,.int .u8 0,.int .u8 0,.int .u8 0,.int .u8 0,.int .u8 0,.int .u8 0,.int .u8 0,.int .u8 0,.int .u8 0,.int .u8 0,.int .u8 0,.int .u8 0,.int .u8 0,.int .u8 0,.int .u8 0,.int .u8 0,.int .u8 0,.int .u8 0,.int .u8 0,.int .u8 0]:Array Value)=(pV pz).toArray:=rfl
theorem box_two(w:World)(D:Nat→Int)(p:Pn):∃W,W=(w.alloc (.cells (bl D).toArray 47)).alloc (.cells (pV p).toArray 24)∧Below w.heap.size w W∧W.heap.size=w.heap.size+2∧Row W w.heap.size 0 128 D∧W.heap[w.heap.size+1]?=some (.cells (pV p).toArray 24 (0,0)):=by
 refine⟨_,rfl,((Below.refl _ _).alloc (Nat.le_refl _) _).alloc (by simp) _,by simp,row_of (t:=47) ((Below.heap_alloc _ _ _ (by simp)).trans (heap_alloc_new w _)),?_⟩
 have:=heap_alloc_new (w.alloc (.cells (bl D).toArray 47)) (.cells (pV p).toArray 24)
 rwa [World.size_alloc] at this
end Pt
namespace Pt
open Go.RowKit Dk Eqb Byt
attribute [local irreducible] wpQuiet
attribute [local go_sem] zvB
attribute [local go_sem] zcB
def fitsB(p:Pn)(D:Nat→Int):Bool:=if isHole p then Wd.zeroB D 128 else eqB 32 p.S (sumD D)
theorem rowS{w:World}{g:Nat}{p:Pn}{t:TypeId}(h:w.heap[g]?=some (.cells (pV p).toArray t (0,0))):w.rangeAt g 2 (Sha.arr 32 (Sha.vu8 p.S)).toList:=fun j v hv=>by
 have hj:j < 32:=by
  have:=(List.getElem?_eq_some_iff.1 hv).1
  simpa[Sha.arr_size] using this
 rw[cS_pt h hj]
 have h1:(Sha.arr 32 (Sha.vu8 p.S)).toList[j]?=some (.int .u8 (p.S j)):=by
  have:=Sha.arr_get (Sha.vu8 p.S) hj
  simpa[Sha.vu8] using this
 rw[h1] at hv
 exact hv
theorem undS:Tryz.prog.underlying 22=some (.array 32 5):=by kernel_rfl
theorem sizeS(S:Nat→Int):(Tryz.prog.info? 22).map (·.size)=some (Sha.arr 32 (Sha.vu8 S)).toList.length:=by rw[Array.length_toList,Sha.arr_size]; kernel_rfl
theorem guardS:Tryz.prog.eqGuardType Tryz.prog.depth 22=false:=by kernel_rfl
theorem reads_row{w:World}{g:Nat}{f:Nat→Int}(h:Row w g 0 128 f):Wd.Reads w (some ⟨g,0,none⟩) 128 128 f:=⟨Nat.le_refl _,(fun e=>by cases e),.inr ⟨g,0,rfl,fun _ hj=>h.cell hj⟩⟩
theorem box_pb(w:World)(p:Pn)(D:Nat→Int):∃W,W=(w.alloc (.cells (pV p).toArray 24)).alloc (.cells (bl D).toArray 47)∧Below w.heap.size w W∧W.heap.size=w.heap.size+2∧W.heap[w.heap.size]?=some (.cells (pV p).toArray 24 (0,0))∧Row W (w.heap.size+1) 0 128 D:=by
 refine⟨_,rfl,((Below.refl _ _).alloc (Nat.le_refl _) _).alloc (by simp) _,by simp,(Below.heap_alloc _ _ _ (by simp)).trans (heap_alloc_new w _),row_of (t:=47) ?_⟩
 have:=heap_alloc_new (w.alloc (.cells (pV p).toArray 24)) (.cells (bl D).toArray 47)
 rwa [World.size_alloc] at this
theorem fits_any(p:Pn)(D:Nat→Int)(w:World)(hD:Bytes D)(hk:Kp w):Calls Tryz.prog 107 #[.agg (pV p).toArray,.agg (bl D).toArray] w fun e w'=>e=.returned (.bool (fitsB p D))∧Below w.heap.size w w':=by
 have HSUM:=Lib.hid (fun(W:World) (g:Nat) (hr:Row W g 0 128 D) (hk:Kp W)=>sum_row hr hD hk)
 have HK:=Lib.hid (fun W (hb:Below w.heap.size w W)=>hk.below hb)
 have HV:Hid (fitsB p D=if isHole p then Wd.zeroB D 128 else eqB 32 p.S (sumD D)):=Lib.hid rfl
 generalize fitsB p D=V at HV ⊢
 generalize sumD D=q at *
 clear hD hk
 obtain⟨W,hW,hB0,hs0,hx0,hr0⟩:=box_pb w p D
 have HI:=Lib.hid (fun W=>ishole_any p W)
 cases hh:isHole p with
 | true=>
  have HH:=Lib.hid hh
  rw[hh] at HI
  clear hh
  go_enter Tryz.func107,Tryz.ntmps107
  subst hW
  go_wp2_with (refine @wG _ _ _ _ _ _ _ (by kernel_rfl) 24 (.tmp 2) rfl w.heap.size 0 rfl (pV p) _ (rP hx0) undP rfl (sizeP p) ?_; simp only[Act.put,aA])
  generalize (w.alloc (.cells (pV p).toArray 24)).alloc (.cells (bl D).toArray 47)=W at hB0 hs0 hx0 hr0 ⊢
  refine(HI.out W).mono ?_
  rintro _ w1 ⟨rfl,hb1⟩
  have hs1:=hb1.size
  have hB1:=hB0.trans (hb1.mono (by omega))
  have hx1:=(hb1.block w.heap.size (by omega)).trans hx0
  have hr1:=hr0.block (hb1.block (w.heap.size+1) (by omega))
  clear hx0 hr0
  dsimp only
  clear hx1
  go_wp2_with fail
  refine(Wd.zero_any (some ⟨w.heap.size+1,0,none⟩) 128 128 D w1 (reads_row hr1) (by omega)).mono ?_
  rintro _ w2 ⟨rfl,rfl⟩
  dsimp only
  go_wp2_with fail
  go_ret
  exact⟨by rw[HV.out,HH.out]; rfl,hB1⟩
 | false=>
  have HH:=Lib.hid hh
  rw[hh] at HI
  clear hh
  go_enter Tryz.func107,Tryz.ntmps107
  subst hW
  go_wp2_with (refine @wG _ _ _ _ _ _ _ (by kernel_rfl) 24 (.tmp 2) rfl w.heap.size 0 rfl (pV p) _ (rP hx0) undP rfl (sizeP p) ?_; simp only[Act.put,aA])
  generalize (w.alloc (.cells (pV p).toArray 24)).alloc (.cells (bl D).toArray 47)=W at hB0 hs0 hx0 hr0 ⊢
  refine(HI.out W).mono ?_
  rintro _ w1 ⟨rfl,hb1⟩
  have hs1:=hb1.size
  have hB1:=hB0.trans (hb1.mono (by omega))
  have hx1:=(hb1.block w.heap.size (by omega)).trans hx0
  have hr1:=hr0.block (hb1.block (w.heap.size+1) (by omega))
  clear hx0 hr0
  dsimp only
  go_wp2_with fail
  have HX:=Lib.hid (fun w' (hw':Below w1.heap.size w1 w')=>rowS ((hw'.block w.heap.size (by omega)).trans hx1))
  have HRR:=Lib.hid (fun w' (hw':Below w1.heap.size w1 w')=>hr1.block (hw'.block (w.heap.size+1) (by omega)))
  clear hx1 hr1
  refine wp_region_quiet (C:=fun w'=>Below w1.heap.size w1 w') (by kernel_rfl) (by kernel_rfl) ⟨rfl,rfl,rfl,Nat.le_refl _,fun _ _=>rfl⟩ ?_
  refine q_val (.pointer (some ⟨w.heap.size,2,none⟩)) rfl (fun w' hw'=>by go_simp) ?_
  simp only[Act.put,aA]
  refine q_loadB 22 (.tmp 9) rfl rfl w.heap.size 2 rfl ((Sha.arr 32 (Sha.vu8 p.S)).toList) _ (fun w' hw'=>HX.out w' hw') undS rfl (sizeS p.S) ?_
  simp only[Act.put,aA]
  refine q_val (.slice (some ⟨w.heap.size+1,0,none⟩) 128 128) rfl (fun w' hw'=>by go_simp) ?_
  simp only[Act.put,aA]
  refine q_call 119 _ (.agg (Sha.arr 32 (Sha.vu8 q))) rfl (fun w'=>by go_simp) (fun w' hw'=>(HSUM.out w' (w.heap.size+1) (HRR.out w' hw') (HK.out w' (hB1.trans (hw'.mono (by omega))))).mono fun e w'' ⟨he,hb⟩=>⟨he,hw'.trans (hb.mono hw'.size)⟩) ?_
  simp only[Act.put,aA]
  refine q_eqlV 22 _ (.tmp 10) (.tmp 12) rfl rfl (Sha.arr 32 (Sha.vu8 p.S)) (Sha.arr 32 (Sha.vu8 q)) (congrArg Value.agg Array.toArray_toList) rfl (eqB 32 p.S q) guardS (fun w' _=>eq_sum p.S q w') ?_
  simp only[Act.put,aA]
  refine q_val (.bool (eqB 32 p.S q)) rfl (fun w' hw'=>by go_simp) ?_
  simp only[Act.put,aA]
  refine wpQuiet_nil ?_
  intro w' hw'
  go_wp2_with fail
  go_ret
  exact⟨by rw[HV.out,HH.out]; rfl,hB1.trans (hw'.mono (by omega))⟩
end Pt
end Go.Proofs.YteaocagepfgfnaaGreatDoor
