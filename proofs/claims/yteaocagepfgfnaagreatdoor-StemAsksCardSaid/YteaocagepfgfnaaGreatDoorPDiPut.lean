import Derived.Test.YteaocagepfgfnaaGreatDoorPDiHome
import Derived.Test.YteaocagepfgfnaaGreatDoorPJPt
import Derived.Test.YteaocagepfgfnaaGreatDoorPAl
set_option maxRecDepth 100000
set_option maxHeartbeats 8000000
namespace Go.Proofs.YteaocagepfgfnaaGreatDoor
namespace Di
open Go.RowKit Dk Byt Eqb Rm
theorem gR{w:World}{B:Nat}(c:Array Value):w.grownBy (w.setRow B c) (some B):=⟨rfl,rfl,rfl,by simp,fun i _ hr=>setRow_other _ _ _ _ (by simpa using hr)⟩
theorem below_only{w w' w'':World}{B:Nat}(h:Below w.heap.size w w')(hB:w.heap.size≤B)(hg:w'.grownBy w'' (some B)):Below w.heap.size w w'':=
 ⟨hg.os.trans h.os,hg.tape.trans h.tape,hg.output.trans h.output,Nat.le_trans h.size hg.size,fun k hk=>(hg.block k (Nat.lt_of_lt_of_le hk h.size) (by simp; omega)).trans (h.block k hk)⟩
theorem grown_only{w w' w'':World}{g B:Nat}(h:w.grownBy w' (some g))(hB:w.heap.size≤B)(hg:w'.grownBy w'' (some B)):w.grownBy w'' (some g):=
 ⟨hg.os.trans h.os,hg.tape.trans h.tape,hg.output.trans h.output,Nat.le_trans h.size hg.size,fun k hk h1=>(hg.block k (Nat.lt_of_lt_of_le hk h.size) (by simp; omega)).trans (h.block k hk h1)⟩
theorem hasD_only{w w':World}{g:Pl}{n B:Nat}{X:Dst}(h:HasD w g n X){cur:Array Value}{t:TypeId}{fr:Nat × Nat}(hB:w.heap[B]?=some (.cells cur t fr))(hc:cur.size≤128)(hne:g.b≠B)(hg:w.grownBy w' (some B)):HasD w' g n X:=by
 obtain⟨sa,sc,ca,cc,hh⟩:=h
 have h1:n=0∨∀b off,sa=some ⟨b,off,none⟩→b≠B:=by
  by_cases h0:n=0
  ·exact .inl h0
  ·refine .inr fun b off e hb=>?_
   obtain⟨b',off',e1,_,_,hr⟩:=hh.ss.rows.resolve_left h0
   rw[e] at e1
   injection e1 with e1
   injection e1 with e1 e2
   subst e1 e2 hb
   have h1:=hr 0 (by omega) 128 _ (secV_read (X.S 0))
   rw[cell_of_row w b _ cur t fr hB] at h1
   have:=(Array.getElem?_eq_some_iff.1 h1).1
   omega
 have h2:X.m=0∨∀b off,ca=some ⟨b,off,none⟩→b≠B:=by
  by_cases h0:X.m=0
  ·exact .inl h0
  ·refine .inr fun b off e hb=>?_
   obtain⟨b',off',e1,_,_,hr⟩:=hh.cs.rows.resolve_left h0
   rw[e] at e1
   injection e1 with e1
   injection e1 with e1 e2
   subst e1 e2 hb
   have h1:=hr 0 (by omega) (1+127) _ (wrV_data (X.C 0) (by omega))
   rw[cell_of_row w b _ cur t fr hB] at h1
   have:=(Array.getElem?_eq_some_iff.1 h1).1
   omega
 have lay:∀{ao:Option Addr} {k c z:Nat} {T:Nat→List Value},Lay w w.heap.size g ao k c z T→(k=0∨∀b off,ao=some ⟨b,off,none⟩→b≠B)→Lay w' w'.heap.size g ao k c z T:=by
  intro ao k c z T hl hz
  refine Lay.more (B:=w.heap.size) ⟨hl.room,hl.nil,?_⟩ hg.size
  rcases hl.rows with h0 | ⟨b,off,e,hb,hbg,hr⟩
  ·exact .inl h0
  ·rcases hz with h0 | hz
   ·exact .inl h0
   ·exact .inr ⟨b,off,e,hb,hbg,fun i hi j v hv=>(World.cell?_of_block (hg.block b hb (by simpa using hz b off e))).trans (hr i hi j v hv)⟩
 have tyk:∀{ao:Option Addr} {k c z:Nat} {T:Nat→List Value} {t:TypeId},Lay w w.heap.size g ao k c z T→Ty w k ao t→(k=0∨∀b off,ao=some ⟨b,off,none⟩→b≠B)→Ty w' k ao t:=by
  intro ao k c z T t hl ht hz
  rcases hz with h0 | hz
  ·exact .inl h0
  ·exact ht.grown2 hg hl fun q o e=>.inr (by simpa using hz q o e)
 exact⟨sa,sc,ca,cc,hh.bx.block (hg.block g hh.bx.lt (by simpa using hne)),lay hh.ss h1,lay hh.cs h2,hh.nb,hh.mb,tyk hh.ss hh.ts h1,tyk hh.cs hh.tc h2⟩
theorem pairs_at{h s:Int}{F T:Nat→Int}:∀{n:Nat},pairsB h s F T n=true→∀i,i < n→2 * h≤T i
 | 0,_,i,hi=>by omega
 | n+1,hp,i,hi=>by
  simp only[pairsB,pairB,Bool.and_eq_true,decide_eq_true_eq] at hp
  by_cases e:i=n
  ·subst e; exact hp.2.1.2
  ·exact pairs_at hp.1 i (by omega)
theorem right_at{s gen:Int}{k:Nat}{F T:Nat→Int}(h:Rm.rightB s gen k F T=true):∀i,i < k→8≤T i:=by
 obtain⟨h0,_,_,_,h5,_⟩:=right_parts h
 have:=(halfN_bd s).2.2 h0
 intro i hi
 have:=pairs_at h5 i hi
 omega
theorem hasV_only{w w':World}{v:Pl}{n B:Nat}{X:Dst}{s:Int}{M:Tab}(h:HasV w v n X M)(hr:Rm.rightB s M.gen M.k M.F M.T=true){cur:Array Value}{t:TypeId}{fr:Nat × Nat}(hB:w.heap[B]?=some (.cells cur t fr))
  (hc:cur.size≤128) (hz:∀(i:Nat) (z:Int),cur[i]?=some (.int .i64 z)→z < 8) (hne:v.b≠B) (hg:w.grownBy w' (some B)):HasV w' v n X M:=by
 obtain⟨pa,cap,h1,h2,h3⟩:=h
 refine⟨pa,cap,hasD_only h1 hB hc hne hg,Lay.more (B:=w.heap.size) ⟨h2.room,h2.nil,?_⟩ hg.size,h3⟩
 rcases h2.rows with h0 | ⟨q,off,e,hq,hqg,hrr⟩
 ·exact .inl h0
 ·refine .inr ⟨q,off,e,hq,hqg,fun i hi=>?_⟩
  have hqB:q≠B:=by
   intro hqB
   subst hqB
   have h3:=hrr i hi 1 (.int .i64 (M.T i)) rfl
   rw[cell_of_row w q _ cur t fr hB] at h3
   have h4:=hz _ _ h3
   have:=right_at hr i hi
   omega
  exact fun j v hj=>(World.cell?_of_block (hg.block q hq (by simpa using hqB))).trans (hrr i hi j v hj)
theorem bl_small(f:Nat→Int)(i:Nat)(z:Int)(h:(bl f).toArray[i]?=some (.int .i64 z)):z < 8:=by
 have hm:=List.mem_of_getElem? (by simpa using h:(bl f)[i]?=some (.int .i64 z))
 simp[bl] at hm
theorem bl_le(f:Nat→Int):(bl f).toArray.size≤128:=by rw[List.size_toArray,bL]; exact Nat.le_refl _
theorem w_right{n:Nat}{X:Dst}{M:Tab}{x:Int}{V:Nat→Int}(h:Rm.rightB n M.gen M.k M.F M.T=true) :
  Rm.rightB n (wRes n X M x V).2.2.gen (wRes n X M x V).2.2.k (wRes n X M x V).2.2.F (wRes n X M x V).2.2.T=true:=by
 by_cases e:(wRes n X M x V).1=0
 ·exact(wr_ok e).2.2.2.2.1
 ·have:(wRes n X M x V).2.2=M:=by
   unfold wRes at e ⊢
   repeat' split
   all_goals first
    | rfl
    | (exfalso; revert e; simp[*])
  rw[this]
  exact h
end Di
namespace Pt
open Go.RowKit Dk Eqb Byt
attribute [local go_sem] zvP
theorem of_any(D:Nat→Int)(a c:Int)(w:World)(hD:Bytes D)(hk:Kp w) :
  Calls Tryz.prog 144 #[.agg (bl D).toArray,.int .i64 a,.int .i64 c] w fun e w'=>e=.returned (.tuple #[.agg (pV (ofV D a c)).toArray,.int .i64 (ofE D a c)])∧Below w.heap.size w w':=by
 have HSUM:=Lib.hid (fun(W:World) (g:Nat) (hr:Row W g 0 128 D) (hk:Kp W)=>sum_row hr hD hk)
 have HV:Hid (ofV D a c=if isHole ⟨a,c,sumD D⟩=false∧rightB ⟨a,c,sumD D⟩=true then ⟨a,c,sumD D⟩ else pz):=Lib.hid rfl
 have HE:Hid (ofE D a c=if isHole ⟨a,c,sumD D⟩=false∧rightB ⟨a,c,sumD D⟩=true then 0 else 1):=Lib.hid rfl
 have HK:=Lib.hid (fun W (hb:Below w.heap.size w W)=>hk.below hb)
 generalize ofV D a c=V at HV ⊢
 generalize ofE D a c=E at HE ⊢
 generalize sumD D=q at *
 have HI:=Lib.hid (fun W=>ishole_any ⟨a,c,q⟩ W)
 have HR:=Lib.hid (fun W=>right_any ⟨a,c,q⟩ W)
 generalize isHole ⟨a,c,q⟩=h at *
 generalize rightB ⟨a,c,q⟩=r at *
 clear hD hk
 obtain⟨W,hW,hB0,hs0,hr0,hx0⟩:=box_two w D pz
 cases h with
 | true=>
  go_enter Tryz.func144,Tryz.ntmps144
  go_wp2_with fail
  rw[zrow,←hW]
  clear hW
  refine(HSUM.out W w.heap.size hr0 (HK.out W hB0)).mono ?_
  rintro _ w1 ⟨rfl,hb1⟩
  have hs1:=hb1.size
  have hB1:=hB0.trans (hb1.mono (by omega))
  have hx1:=(hb1.block (w.heap.size+1) (by omega)).trans hx0
  have hb2:Below w1.heap.size w1 (w1.alloc (.cells (pV ⟨a,c,q⟩).toArray 24)):=(Below.refl _ _).alloc (Nat.le_refl _) _
  have hx2:=(hb2.block (w.heap.size+1) (by omega)).trans hx1
  have hz2:(w1.alloc (.cells (pV ⟨a,c,q⟩).toArray 24)).heap[w1.heap.size]?=some (.cells (pV ⟨a,c,q⟩).toArray 24 (0,0)):=heap_alloc_new _ _
  have hs2:(w1.alloc (.cells (pV ⟨a,c,q⟩).toArray 24)).heap.size=w1.heap.size+1:=by simp
  have hB2:=hB1.trans (hb2.mono (by omega))
  clear hb1 hx0 hr0 hb2 hx1
  dsimp only
  go_wp2_with (first
   | (refine @wpList_buildTo _ _ _ _ _ _ _ rfl 24 #[(0,.tmp 9),(1,.tmp 10),(2,.tmp 12)] rfl _ rfl (pV ⟨a,c,q⟩).toArray (by kernel_rfl) ?_; simp only[Act.put,aA])
   | (refine @wpList_store_row _ _ _ _ _ _ _ rfl 24 (.tmp 8) (.tmp 13) rfl w1.heap.size (pV ⟨a,c,q⟩).toArray rfl rfl 24 _ (heap_alloc_new w1 _) (sizeP' _) rfl (pV_all _) ?_; rw[World.setRow_alloc_new]; simp only[Act.put])
   | (refine @wG _ _ _ _ _ _ _ (by kernel_rfl) 24 (.tmp 8) rfl w1.heap.size 0 rfl (pV ⟨a,c,q⟩) _ (rP (heap_alloc_new w1 _)) undP rfl (sizeP _) ?_; simp only[Act.put,aA]))
  generalize w1.alloc (.cells (pV ⟨a,c,q⟩).toArray 24)=W2 at hx2 hz2 hs2 hB2 ⊢
  refine(HI.out W2).mono ?_
  rintro _ w3 ⟨rfl,hb3⟩
  have hx3:=(hb3.block (w.heap.size+1) (by omega)).trans hx2
  have hB3:=hB2.trans (hb3.mono (by omega))
  clear hx2 hz2
  dsimp only
  go_wp2_with (first
   | (refine @wpList_buildTo _ _ _ _ _ _ _ rfl 24 #[] rfl _ rfl (pV pz).toArray builtZ ?_; simp only[Act.put,aA])
   | (refine @wpList_store_row _ _ _ _ _ _ _ rfl 24 (.tmp 6) (.tmp 21) rfl (w.heap.size+1) (pV pz).toArray rfl rfl 24 _ (hx3) (sizeP' _) rfl (pV_all _) ?_; simp only[Act.put]))
  have hr9:=setRow_heap w3 (w.heap.size+1) _ (pV pz).toArray 24 (0,0) hx3
  refine bodyPost_ret (rTp rfl rfl rfl hr9) rfl ?_
  exact⟨by rw[HV.out,HE.out]; simp,hB3.trans ⟨rfl,rfl,rfl,by simp,fun k hk=>setRow_other w3 _ k _ (by omega)⟩⟩
 | false=>
  cases r with
  | false=>
   go_enter Tryz.func144,Tryz.ntmps144
   go_wp2_with fail
   rw[zrow,←hW]
   clear hW
   refine(HSUM.out W w.heap.size hr0 (HK.out W hB0)).mono ?_
   rintro _ w1 ⟨rfl,hb1⟩
   have hs1:=hb1.size
   have hB1:=hB0.trans (hb1.mono (by omega))
   have hx1:=(hb1.block (w.heap.size+1) (by omega)).trans hx0
   have hb2:Below w1.heap.size w1 (w1.alloc (.cells (pV ⟨a,c,q⟩).toArray 24)):=(Below.refl _ _).alloc (Nat.le_refl _) _
   have hx2:=(hb2.block (w.heap.size+1) (by omega)).trans hx1
   have hz2:(w1.alloc (.cells (pV ⟨a,c,q⟩).toArray 24)).heap[w1.heap.size]?=some (.cells (pV ⟨a,c,q⟩).toArray 24 (0,0)):=heap_alloc_new _ _
   have hs2:(w1.alloc (.cells (pV ⟨a,c,q⟩).toArray 24)).heap.size=w1.heap.size+1:=by simp
   have hB2:=hB1.trans (hb2.mono (by omega))
   clear hb1 hx0 hr0 hb2 hx1
   dsimp only
   go_wp2_with (first
    | (refine @wpList_buildTo _ _ _ _ _ _ _ rfl 24 #[(0,.tmp 9),(1,.tmp 10),(2,.tmp 12)] rfl _ rfl (pV ⟨a,c,q⟩).toArray (by kernel_rfl) ?_; simp only[Act.put,aA])
    | (refine @wpList_store_row _ _ _ _ _ _ _ rfl 24 (.tmp 8) (.tmp 13) rfl w1.heap.size (pV ⟨a,c,q⟩).toArray rfl rfl 24 _ (heap_alloc_new w1 _) (sizeP' _) rfl (pV_all _) ?_; rw[World.setRow_alloc_new]; simp only[Act.put])
    | (refine @wG _ _ _ _ _ _ _ (by kernel_rfl) 24 (.tmp 8) rfl w1.heap.size 0 rfl (pV ⟨a,c,q⟩) _ (rP (heap_alloc_new w1 _)) undP rfl (sizeP _) ?_; simp only[Act.put,aA]))
   generalize w1.alloc (.cells (pV ⟨a,c,q⟩).toArray 24)=W2 at hx2 hz2 hs2 hB2 ⊢
   refine(HI.out W2).mono ?_
   rintro _ w3 ⟨rfl,hb3⟩
   have hx3:=(hb3.block (w.heap.size+1) (by omega)).trans hx2
   have hz3:=(hb3.block w1.heap.size (by omega)).trans hz2
   have hB3:=hB2.trans (hb3.mono (by omega))
   have hs3:=hb3.size
   clear hx2 hz2
   dsimp only
   go_wp2_with (refine @wG _ _ _ _ _ _ _ (by kernel_rfl) 24 (.tmp 8) rfl w1.heap.size 0 rfl (pV ⟨a,c,q⟩) _ (rP (hz3)) undP rfl (sizeP _) ?_; simp only[Act.put,aA])
   refine(HR.out w3).mono ?_
   rintro _ w4 ⟨rfl,hb4⟩
   have hx4:=(hb4.block (w.heap.size+1) (by omega)).trans hx3
   have hz4:=(hb4.block w1.heap.size (by omega)).trans hz3
   have hB4:=hB3.trans (hb4.mono (by omega))
   clear hx3 hz3
   dsimp only
   go_wp2_with (first
    | (refine @wpList_buildTo _ _ _ _ _ _ _ rfl 24 #[] rfl _ rfl (pV pz).toArray builtZ ?_; simp only[Act.put,aA])
    | (refine @wpList_store_row _ _ _ _ _ _ _ rfl 24 (.tmp 6) (.tmp 21) rfl (w.heap.size+1) (pV pz).toArray rfl rfl 24 _ (hx4) (sizeP' _) rfl (pV_all _) ?_; simp only[Act.put]))
   have hr9:=setRow_heap w4 (w.heap.size+1) _ (pV pz).toArray 24 (0,0) hx4
   refine bodyPost_ret (rTp rfl rfl rfl hr9) rfl ?_
   exact⟨by rw[HV.out,HE.out]; simp,hB4.trans ⟨rfl,rfl,rfl,by simp,fun k hk=>setRow_other w4 _ k _ (by omega)⟩⟩
  | true=>
   go_enter Tryz.func144,Tryz.ntmps144
   go_wp2_with fail
   rw[zrow,←hW]
   clear hW
   refine(HSUM.out W w.heap.size hr0 (HK.out W hB0)).mono ?_
   rintro _ w1 ⟨rfl,hb1⟩
   have hs1:=hb1.size
   have hB1:=hB0.trans (hb1.mono (by omega))
   have hx1:=(hb1.block (w.heap.size+1) (by omega)).trans hx0
   have hb2:Below w1.heap.size w1 (w1.alloc (.cells (pV ⟨a,c,q⟩).toArray 24)):=(Below.refl _ _).alloc (Nat.le_refl _) _
   have hx2:=(hb2.block (w.heap.size+1) (by omega)).trans hx1
   have hz2:(w1.alloc (.cells (pV ⟨a,c,q⟩).toArray 24)).heap[w1.heap.size]?=some (.cells (pV ⟨a,c,q⟩).toArray 24 (0,0)):=heap_alloc_new _ _
   have hs2:(w1.alloc (.cells (pV ⟨a,c,q⟩).toArray 24)).heap.size=w1.heap.size+1:=by simp
   have hB2:=hB1.trans (hb2.mono (by omega))
   clear hb1 hx0 hr0 hb2 hx1
   dsimp only
   go_wp2_with (first
    | (refine @wpList_buildTo _ _ _ _ _ _ _ rfl 24 #[(0,.tmp 9),(1,.tmp 10),(2,.tmp 12)] rfl _ rfl (pV ⟨a,c,q⟩).toArray (by kernel_rfl) ?_; simp only[Act.put,aA])
    | (refine @wpList_store_row _ _ _ _ _ _ _ rfl 24 (.tmp 8) (.tmp 13) rfl w1.heap.size (pV ⟨a,c,q⟩).toArray rfl rfl 24 _ (heap_alloc_new w1 _) (sizeP' _) rfl (pV_all _) ?_; rw[World.setRow_alloc_new]; simp only[Act.put])
    | (refine @wG _ _ _ _ _ _ _ (by kernel_rfl) 24 (.tmp 8) rfl w1.heap.size 0 rfl (pV ⟨a,c,q⟩) _ (rP (heap_alloc_new w1 _)) undP rfl (sizeP _) ?_; simp only[Act.put,aA]))
   generalize w1.alloc (.cells (pV ⟨a,c,q⟩).toArray 24)=W2 at hx2 hz2 hs2 hB2 ⊢
   refine(HI.out W2).mono ?_
   rintro _ w3 ⟨rfl,hb3⟩
   have hx3:=(hb3.block (w.heap.size+1) (by omega)).trans hx2
   have hz3:=(hb3.block w1.heap.size (by omega)).trans hz2
   have hB3:=hB2.trans (hb3.mono (by omega))
   have hs3:=hb3.size
   clear hx2 hz2
   dsimp only
   go_wp2_with (refine @wG _ _ _ _ _ _ _ (by kernel_rfl) 24 (.tmp 8) rfl w1.heap.size 0 rfl (pV ⟨a,c,q⟩) _ (rP (hz3)) undP rfl (sizeP _) ?_; simp only[Act.put,aA])
   refine(HR.out w3).mono ?_
   rintro _ w4 ⟨rfl,hb4⟩
   have hx4:=(hb4.block (w.heap.size+1) (by omega)).trans hx3
   have hz4:=(hb4.block w1.heap.size (by omega)).trans hz3
   have hB4:=hB3.trans (hb4.mono (by omega))
   clear hx3 hz3
   dsimp only
   go_wp2_with (first
    | (refine @wG _ _ _ _ _ _ _ (by kernel_rfl) 24 (.tmp 8) rfl w1.heap.size 0 rfl (pV ⟨a,c,q⟩) _ (rP (hz4)) undP rfl (sizeP _) ?_; simp only[Act.put,aA])
    | (refine @wpList_store_row _ _ _ _ _ _ _ rfl 24 (.tmp 6) (.tmp 22) rfl (w.heap.size+1) (pV ⟨a,c,q⟩).toArray rfl rfl 24 _ (hx4) (sizeP' _) rfl (pV_all _) ?_; simp only[Act.put]))
   have hr9:=setRow_heap w4 (w.heap.size+1) _ (pV ⟨a,c,q⟩).toArray 24 (0,0) hx4
   refine bodyPost_ret (rTp rfl rfl rfl hr9) rfl ?_
   exact⟨by rw[HV.out,HE.out]; simp,hB4.trans ⟨rfl,rfl,rfl,by simp,fun k hk=>setRow_other w4 _ k _ (by omega)⟩⟩
end Pt
namespace Di
open Go.RowKit Dk Byt Eqb Rm
attribute [local go_sem] zv29
attribute [local go_sem] Pt.zvP
attribute [local go_sem] zc29
def Puts(w:World)(g:Pl)(n:Nat)(R:PR)(e:Ending)(w':World):Prop:=e=.returned (.tuple #[.agg (Pt.pV R.p).toArray,.int .i64 R.e])∧w.grownBy w' (some g.b)∧HasV w' g n R.X R.M
theorem hasV_lt{w:World}{g:Pl}{n:Nat}{X:Dst}{M:Tab}(h:HasV w g n X M):g.b < w.heap.size:=by
 obtain⟨_,_,h,_⟩:=h
 exact h.lt
theorem hasV_ne{w:World}{g:Pl}{n:Nat}{X:Dst}{M:Tab}(h:HasV w g n X M):g.b≠0:=by
 obtain⟨_,_,_,_,h⟩:=h
 exact h
theorem pz_small(i:Nat)(z:Int)(h:(Pt.pV Pt.pz).toArray[i]?=some (.int .i64 z)):z < 8:=by
 have hm:=List.mem_of_getElem? (by simpa using h:(Pt.pV Pt.pz)[i]?=some (.int .i64 z))
 simp[Pt.pV,Pt.pz] at hm
 omega
theorem pV_le(p:Pt.Pn):(Pt.pV p).toArray.size≤128:=by rw[Pt.pV_asize]; omega
structure PtI(w:World)(g:Pl)(n bp:Nat)(V:Nat→Int)(P:Pt.Pn)(X:Dst)(M:Tab)(wr:World):Prop where
 two:w.grownBy wr (some g.b)
 d:HasV wr g n X M
 v:wr.heap[w.heap.size]?=some (.cells (bl V).toArray 47 (0,0))
 z:wr.heap[w.heap.size+1]?=some (.cells (Pt.pV Pt.pz).toArray 24 (0,0))
 q:wr.heap[bp]?=some (.cells (Pt.pV P).toArray 24 (0,0))
theorem PtI.below{w wr w':World}{g:Pl}{n bp:Nat}{V:Nat→Int}{P:Pt.Pn}{X:Dst}{M:Tab}(h:PtI w g n bp V P X M wr)(hb:Below wr.heap.size wr w'):PtI w g n bp V P X M w':=
 ⟨Dk.oT h.two (oB hb),h.d.below hb,(hb.block _ (Array.getElem?_eq_some_iff.1 h.v).1).trans h.v,(hb.block _ (Array.getElem?_eq_some_iff.1 h.z).1).trans h.z,(hb.block _ (Array.getElem?_eq_some_iff.1 h.q).1).trans h.q⟩
theorem PtI.turn{w wr w':World}{g:Pl}{n bp:Nat}{V:Nat→Int}{P:Pt.Pn}{X X':Dst}{M M':Tab}(h:PtI w g n bp V P X M wr)(ht:wr.grownBy w' (some g.b))(hd:HasV w' g n X' M')(hg:g.b < w.heap.size)(hp:w.heap.size≤bp):PtI w g n bp V P X' M' w':=
 ⟨Dk.oT h.two ht,hd,(ht.block _ (Array.getElem?_eq_some_iff.1 h.v).1 (by simp; omega)).trans h.v,(ht.block _ (Array.getElem?_eq_some_iff.1 h.z).1 (by simp; omega)).trans h.z,(ht.block _ (Array.getElem?_eq_some_iff.1 h.q).1 (by simp; omega)).trans h.q⟩
theorem PtI.end{w wr:World}{g:Pl}{n bp:Nat}{V:Nat→Int}{P:Pt.Pn}{X:Dst}{M:Tab}{s:Int}(h:PtI w g n bp V P X M wr)(hg:g.b < w.heap.size)(hr:Rm.rightB s M.gen M.k M.F M.T=true)(c:Array Value) :
  w.grownBy (wr.setRow (w.heap.size+1) c) (some g.b)∧HasV (wr.setRow (w.heap.size+1) c) g n X M:=
 ⟨grown_only h.two (Nat.le_succ _) (gR _),hasV_only h.d hr h.z (pV_le _) pz_small (by omega) (gR _)⟩
theorem box_put(w:World)(V:Nat→Int):∃W,W=(w.alloc (.cells (bl V).toArray 47)).alloc (.cells (Pt.pV Pt.pz).toArray 24)∧Below w.heap.size w W∧W.heap.size=w.heap.size+2∧
  W.heap[w.heap.size]?=some (.cells (bl V).toArray 47 (0,0))∧W.heap[w.heap.size+1]?=some (.cells (Pt.pV Pt.pz).toArray 24 (0,0)):=by
 refine⟨_,rfl,((Below.refl _ _).alloc (Nat.le_refl _) _).alloc (by simp) _,by simp,(Below.heap_alloc _ _ _ (by simp)).trans (heap_alloc_new w _),?_⟩
 have:=heap_alloc_new (w.alloc (.cells (bl V).toArray 47)) (.cells (Pt.pV Pt.pz).toArray 24)
 rwa [World.size_alloc] at this
section
variable {n:Nat}{X:Dst}{M:Tab}{V:Nat→Int}{a c:Int}
theorem of_zero(h:Pt.ofE V a c=0):Pt.ofV V a c=⟨a,c,Pt.sumD V⟩∧a≠-1:=by
 unfold Pt.ofE at h
 unfold Pt.ofV
 split at h
 ·rename_i h1
  rw[if_pos h1]
  refine⟨rfl,fun e=>?_⟩
  have:=Pt.right_neg (c:=c) (q:=Pt.sumD V) e h1.2
  rw[h1.1] at this
  cases this
 ·omega
theorem of_not(h:Pt.ofE V a c≠0):Pt.ofE V a c=1:=by
 unfold Pt.ofE at h ⊢
 split at h
 ·omega
 ·rename_i h1; rw[if_neg h1]
theorem p_of(h:Pt.ofE V a c≠0):pRes n X M V a c=⟨Pt.pz,1,X,M⟩:=by unfold pRes; rw[if_pos h]
theorem p_home(h:Pt.ofE V a c=0)(hh:homB n X M ⟨a,c,Pt.sumD V⟩=false):pRes n X M V a c=⟨Pt.pz,1,X,M⟩:=by unfold pRes; rw[if_neg (by rw[h]; simp),(of_zero h).1,if_pos hh]
theorem p_w1(h:Pt.ofE V a c=0)(hh:homB n X M ⟨a,c,Pt.sumD V⟩=true)(h1:(wRes n X M a V).1≠0):pRes n X M V a c=⟨Pt.pz,(wRes n X M a V).1,(wRes n X M a V).2.1,(wRes n X M a V).2.2⟩:=by
 unfold pRes; rw[if_neg (by rw[h]; simp),(of_zero h).1,if_neg (by rw[hh]; simp),if_pos h1]
theorem p_one(h:Pt.ofE V a c=0)(hh:homB n X M ⟨a,c,Pt.sumD V⟩=true)(h1:(wRes n X M a V).1=0)(hc:c = -1):pRes n X M V a c=⟨⟨a,c,Pt.sumD V⟩,0,(wRes n X M a V).2.1,(wRes n X M a V).2.2⟩:=by
 unfold pRes; rw[if_neg (by rw[h]; simp),(of_zero h).1,if_neg (by rw[hh]; simp),if_neg (by rw[h1]; simp),if_pos hc]
theorem p_w2(h:Pt.ofE V a c=0)(hh:homB n X M ⟨a,c,Pt.sumD V⟩=true)(h1:(wRes n X M a V).1=0)(hc:c≠-1)(h2:(wRes n (wRes n X M a V).2.1 (wRes n X M a V).2.2 c V).1≠0) :
  pRes n X M V a c=⟨Pt.pz,(wRes n (wRes n X M a V).2.1 (wRes n X M a V).2.2 c V).1,(wRes n (wRes n X M a V).2.1 (wRes n X M a V).2.2 c V).2.1,(wRes n (wRes n X M a V).2.1 (wRes n X M a V).2.2 c V).2.2⟩:=by
 unfold pRes; rw[if_neg (by rw[h]; simp),(of_zero h).1,if_neg (by rw[hh]; simp),if_neg (by rw[h1]; simp),if_neg hc,if_pos h2]
theorem p_two(h:Pt.ofE V a c=0)(hh:homB n X M ⟨a,c,Pt.sumD V⟩=true)(h1:(wRes n X M a V).1=0)(hc:c≠-1)(h2:(wRes n (wRes n X M a V).2.1 (wRes n X M a V).2.2 c V).1=0) :
  pRes n X M V a c=⟨⟨a,c,Pt.sumD V⟩,0,(wRes n (wRes n X M a V).2.1 (wRes n X M a V).2.2 c V).2.1,(wRes n (wRes n X M a V).2.1 (wRes n X M a V).2.2 c V).2.2⟩:=by
 unfold pRes; rw[if_neg (by rw[h]; simp),(of_zero h).1,if_neg (by rw[hh]; simp),if_neg (by rw[h1]; simp),if_neg hc,if_neg (by rw[h2]; simp)]
end
theorem put_d{w:World}{g:Pl}{n:Nat}{X:Dst}(hkp:Rm.Kp w)(hok:Ok 23 X)(gen:Int)(k:Nat)(F T:Nat→Int)(hT:HasV w g n X ⟨gen,k,F,T⟩)(hm:TabOk ⟨gen,k,F,T⟩)(V:Nat→Int)(a c:Int)(hV:byt V)
  (hok2:Ok 23 (wRes n X ⟨gen,k,F,T⟩ a V).2.1) (hm2:TabOk (wRes n X ⟨gen,k,F,T⟩ a V).2.2) :
  Calls Tryz.prog 114 #[.pointer (some ⟨g.b,g.o,none⟩),.pointer (some ⟨g.b,g.o+4,none⟩),.agg (bl V).toArray,.int .i64 a,.int .i64 c] w (Puts w g n (pRes n X ⟨gen,k,F,T⟩ V a c)):=by
 unfold Puts
 have hgl:=hasV_lt hT
 have hg0:=hasV_ne hT
 have HTT:=Lib.hid (fun w' (hw:Below w.heap.size w w')=>hT.below hw)
 have HK:=Lib.hid (fun w' (hw:w.grownBy w' (some g.b))=>hkp.grown hw hg0)
 have HO:=Lib.hid (fun w' (hw:Below w.heap.size w w')=>Pt.of_any V a c w' hV (hkp.below hw))
 have HW1:=Lib.hid (fun w' (hkp:Rm.Kp w') (hT:HasV w' g n X ⟨gen,k,F,T⟩)=>rwrite_d hkp hok gen k F T hT hm a V)
 have P1:=Lib.hid (@p_of n X ⟨gen,k,F,T⟩ V a c)
 obtain⟨W,hW,hB0,hs0,hv0,hz0⟩:=box_put w V
 have r0:=row_all hv0
 by_cases e1:Pt.ofE V a c=0
 rotate_left
 ·have hR:=Lib.hid (P1.out e1)
  have hE:=of_not e1
  rw[hE] at HO
  clear HW1 P1 hok2 hm2
  generalize Pt.ofV V a c=P at HO
  generalize pRes n X ⟨gen,k,F,T⟩ V a c=R at hR ⊢
  clear hkp hok hT hm e1 hE hV
  go_enter Tryz.func114,Tryz.ntmps114
  rw[hW] at r0
  go_wp2_with (refine @wG _ _ _ _ _ _ _ (by kernel_rfl) 47 (.tmp 7) rfl w.heap.size 0 rfl (bl V) _ r0 undB rfl (sB V) ?_; simp only[Act.put,aA])
  rw[Pt.zrow,←hW]
  clear hW r0
  refine(HO.out W hB0).mono ?_
  rintro _ w1 ⟨rfl,hb1⟩
  have hB1:=hB0.trans (hb1.mono hB0.size)
  have hz1:=(hb1.block (w.heap.size+1) (by omega)).trans hz0
  have hb2:Below w1.heap.size w1 (w1.alloc (.cells (Pt.pV P).toArray 24)):=(Below.refl _ _).alloc (Nat.le_refl _) _
  have hB2:=hB1.trans (hb2.mono hB1.size)
  have hs1:=hb1.size
  have hz2:=(hb2.block (w.heap.size+1) (by omega)).trans hz1
  clear hb1 hb2 HO hz0 hz1 hv0
  dsimp only
  go_wp2_with (first
   | (refine @wpList_store_row _ _ _ _ _ _ _ rfl 24 (.tmp 12) (.tmp 22) rfl w1.heap.size (Pt.pV P).toArray rfl rfl 24 _ (heap_alloc_new w1 _) (Pt.sizeP' _) rfl (Pt.pV_all _) ?_; rw[World.setRow_alloc_new]; simp only[Act.put]; generalize w1.alloc (.cells (Pt.pV P).toArray 24)=w2 at hB2 hz2 ⊢)
   | (refine wpList_buildTo rfl 24 #[] rfl _ rfl (Pt.pV Pt.pz).toArray Pt.builtZ ?_; simp only[Act.put,aA])
   | (refine @wpList_store_row _ _ _ _ _ _ _ rfl 24 (.tmp 10) (.tmp 26) rfl (w.heap.size+1) (Pt.pV Pt.pz).toArray rfl rfl 24 _ hz2 (Pt.sizeP' _) rfl (Pt.pV_all _) ?_; simp only[Act.put]))
  refine bodyPost_ret (Pt.rTp rfl rfl rfl (setRow_heap _ _ _ _ _ _ hz2)) rfl ?_
  have hB:=below_only hB2 (Nat.le_succ _) (gR (B:=w.heap.size+1) (Pt.pV Pt.pz).toArray)
  exact⟨by rw[hR.out]; try rfl,oB hB,by rw[hR.out]; exact HTT.out _ hB⟩
 ·obtain⟨hP,ha1⟩:=of_zero e1
  rw[hP,e1] at HO
  have HHM:=Lib.hid (fun w' (hw:Below w.heap.size w w')=>home_d gen k F T (hT.below hw) hm ⟨a,c,Pt.sumD V⟩)
  have HHO:=Lib.hid (@hom_parts n X ⟨gen,k,F,T⟩ ⟨a,c,Pt.sumD V⟩)
  have P2:=Lib.hid (p_home (n:=n) (X:=X) (M:=⟨gen,k,F,T⟩) e1)
  have P3:=Lib.hid (p_w1 (n:=n) (X:=X) (M:=⟨gen,k,F,T⟩) e1)
  have P4:=Lib.hid (p_one (n:=n) (X:=X) (M:=⟨gen,k,F,T⟩) e1)
  have P5:=Lib.hid (p_w2 (n:=n) (X:=X) (M:=⟨gen,k,F,T⟩) e1)
  have P6:=Lib.hid (p_two (n:=n) (X:=X) (M:=⟨gen,k,F,T⟩) e1)
  have HWR1:=Lib.hid (fun hr=>w_right (n:=n) (X:=X) (M:=⟨gen,k,F,T⟩) (x:=a) (V:=V) hr)
  have HI0:=Lib.hid (fun w' bp (hw:Below w.heap.size w w') h1 h2 h3=>(⟨oB hw,hT.below hw,h1,h2,h3⟩:PtI w g n bp V ⟨a,c,Pt.sumD V⟩ X ⟨gen,k,F,T⟩ w'))
  generalize hq:Pt.sumD V=q at HO HHM HHO P2 P3 P4 P5 P6 HI0
  unfold Wrote at HW1
  generalize hR1:wRes n X ⟨gen,k,F,T⟩ a V=R1 at HW1 HWR1 P3 P4 P5 P6 hok2 hm2
  obtain⟨E1,X1,gen1,k1,F1,T1⟩:=R1
  dsimp only at HW1 HWR1 P3 P4 P5 P6 hok2 hm2
  have HW2:=Lib.hid (fun w' (hkp:Rm.Kp w') (hT:HasV w' g n X1 ⟨gen1,k1,F1,T1⟩)=>rwrite_d hkp hok2 gen1 k1 F1 T1 hT hm2 c V)
  have HWR2:=Lib.hid (fun hr=>w_right (n:=n) (X:=X1) (M:=⟨gen1,k1,F1,T1⟩) (x:=c) (V:=V) hr)
  unfold Wrote at HW2
  generalize hR2:wRes n X1 ⟨gen1,k1,F1,T1⟩ c V=R2 at HW2 HWR2 P5 P6
  obtain⟨E2,X2,gen2,k2,F2,T2⟩:=R2
  dsimp only at HW2 HWR2 P5 P6
  generalize homB n X ⟨gen,k,F,T⟩ ⟨a,c,q⟩=hm' at HHM HHO P2 P3 P4 P5 P6
  generalize pRes n X ⟨gen,k,F,T⟩ V a c=R at P2 P3 P4 P5 P6 ⊢
  have ha':(a == -1)=false:=by simpa using ha1
  clear hkp hok hT hm e1 hP hV P1 hok2 hm2 hR1 hR2 hq ha1
  go_enter Tryz.func114,Tryz.ntmps114
  rw[hW] at r0
  go_wp2_with (refine @wG _ _ _ _ _ _ _ (by kernel_rfl) 47 (.tmp 7) rfl w.heap.size 0 rfl (bl V) _ r0 undB rfl (sB V) ?_; simp only[Act.put,aA])
  rw[Pt.zrow,←hW]
  clear hW r0
  refine(HO.out W hB0).mono ?_
  rintro _ w1 ⟨rfl,hb1⟩
  have hB1:=hB0.trans (hb1.mono hB0.size)
  have hv1:=(hb1.block w.heap.size (by omega)).trans hv0
  have hz1:=(hb1.block (w.heap.size+1) (by omega)).trans hz0
  have hb2:Below w1.heap.size w1 (w1.alloc (.cells (Pt.pV ⟨a,c,q⟩).toArray 24)):=(Below.refl _ _).alloc (Nat.le_refl _) _
  have hB2:=hB1.trans (hb2.mono hB1.size)
  have hs1:=hb1.size
  have hv2:=(hb2.block w.heap.size (by omega)).trans hv1
  have hz2:=(hb2.block (w.heap.size+1) (by omega)).trans hz1
  have hq2:(w1.alloc (.cells (Pt.pV ⟨a,c,q⟩).toArray 24)).heap[w1.heap.size]?=some (.cells (Pt.pV ⟨a,c,q⟩).toArray 24 (0,0)):=heap_alloc_new w1 _
  have HI2:=Lib.hid (HI0.out _ w1.heap.size hB2 hv2 hz2 hq2)
  have q2:=Pt.rP hq2
  clear hb1 hb2 HO hz0 hz1 hv0 hv1 hv2 hz2 hq2 HI0
  dsimp only
  go_wp2_with (first
   | (refine @wpList_store_row _ _ _ _ _ _ _ rfl 24 (.tmp 12) (.tmp 22) rfl w1.heap.size (Pt.pV ⟨a,c,q⟩).toArray rfl rfl 24 _ (heap_alloc_new w1 _) (Pt.sizeP' _) rfl (Pt.pV_all _) ?_; rw[World.setRow_alloc_new]; simp only[Act.put]; generalize w1.alloc (.cells (Pt.pV ⟨a,c,q⟩).toArray 24)=w2 at hB2 HI2 q2 ⊢)
   | (refine @wG _ _ _ _ _ _ _ (by kernel_rfl) 24 (.tmp 12) rfl w1.heap.size 0 rfl (Pt.pV ⟨a,c,q⟩) _ q2 Pt.undP rfl (Pt.sizeP ⟨a,c,q⟩) ?_; simp only[Act.put,aA]))
  refine(HHM.out w2 hB2).mono ?_
  rintro _ w3 ⟨rfl,hb3⟩
  have HI3:=Lib.hid (HI2.out.below hb3)
  have hB3:=hB2.trans (hb3.mono hB2.size)
  clear HHM hb3 hB2 HI2 q2
  dsimp only
  cases hm' with
  | false=>
   have hR:=Lib.hid (P2.out rfl)
   have hz:=HI3.out.z
   clear P2 P3 P4 P5 P6 HW1 HW2 HHO
   go_wp2_with (first
    | (refine wpList_buildTo rfl 24 #[] rfl _ rfl (Pt.pV Pt.pz).toArray Pt.builtZ ?_; simp only[Act.put,aA])
    | (refine @wpList_store_row _ _ _ _ _ _ _ rfl 24 (.tmp 10) (.tmp 33) rfl (w.heap.size+1) (Pt.pV Pt.pz).toArray rfl rfl 24 _ hz (Pt.sizeP' _) rfl (Pt.pV_all _) ?_; simp only[Act.put]))
   refine bodyPost_ret (Pt.rTp rfl rfl rfl (setRow_heap _ _ _ _ _ _ hz)) rfl ?_
   have hB:=below_only hB3 (Nat.le_succ _) (gR (B:=w.heap.size+1) (Pt.pV Pt.pz).toArray)
   exact⟨by rw[hR.out]; try rfl,oB hB,by rw[hR.out]; exact HTT.out _ hB⟩
  | true=>
   obtain⟨_,hri,_⟩:=HHO.out rfl
   have HR1:=Lib.hid (HWR1.out hri)
   have HR2:=Lib.hid (HWR2.out HR1.out)
   replace P3:=Lib.hid (P3.out rfl)
   replace P4:=Lib.hid (P4.out rfl)
   replace P5:=Lib.hid (P5.out rfl)
   replace P6:=Lib.hid (P6.out rfl)
   have q3:=Pt.rP HI3.out.q
   clear P2 HHO HWR1 HWR2 hri hB3 HTT
   go_wp2_with (refine @wG _ _ _ _ _ _ _ (by kernel_rfl) 24 (.tmp 12) rfl w1.heap.size 0 rfl (Pt.pV ⟨a,c,q⟩) _ q3 Pt.undP rfl (Pt.sizeP ⟨a,c,q⟩) ?_; simp only[Act.put,aA])
   refine(sectors_any ⟨a,c,q⟩ w3).mono ?_
   rintro _ w4 ⟨rfl,hb4⟩
   have HI4:=Lib.hid (HI3.out.below hb4)
   have hbp:w.heap.size≤w1.heap.size:=hB1.size
   clear hb4 HI3 q3 hB1
   dsimp only
   generalize w1.heap.size=bp at HI4 hbp ⊢
   go_wp2_with fail
   go_loopw [36] (fun i wr=>∃j:Nat,j≤2∧i=.int .i64 j∧Hid ((j=0→PtI w g n bp V ⟨a,c,q⟩ X ⟨gen,k,F,T⟩ wr)∧(j=1→E1=0∧PtI w g n bp V ⟨a,c,q⟩ X1 ⟨gen1,k1,F1,T1⟩ wr)∧(j=2→E1=0∧((c = -1∧PtI w g n bp V ⟨a,c,q⟩ X1 ⟨gen1,k1,F1,T1⟩ wr)∨(c≠-1∧E2=0∧PtI w g n bp V ⟨a,c,q⟩ X2 ⟨gen2,k2,F2,T2⟩ wr))))) (fun i _=>2 - (intOf i).toNat)
   case atStart=>exact⟨0,by omega,rfl,Lib.hid ⟨fun _=>HI4.out,fun h=>by omega,fun h=>by omega⟩⟩
   case round=>
    obtain⟨j,hj,rfl,hR⟩:=hrel
    clear HI4
    match j,hj with
    | 0,_=>
     have hix:=run_index2A a c
     have hI:=hR.out.1 rfl
     have HI:=Lib.hid hI
     have rv:=row_all hI.v
     have HC:=Lib.hid (HW1.out wr (HK.out wr hI.two) hI.d)
     clear hI hR HW1 HW2
     go_wp2_with (refine @wG _ _ _ _ _ _ _ (by kernel_rfl) 47 (.tmp 7) rfl w.heap.size 0 rfl (bl V) _ rv undB rfl (sB V) ?_; simp only[Act.put,aA])
     refine HC.out.mono ?_
     rintro _ w5 ⟨rfl,hT5,hD5⟩
     have HI5:=Lib.hid (HI.out.turn hT5 hD5 hgl hbp)
     clear hT5 hD5 HC HI rv hix
     dsimp only
     by_cases e1:E1=0
     ·have hN:Hid ((1=0→PtI w g n bp V ⟨a,c,q⟩ X ⟨gen,k,F,T⟩ w5)∧(1=1→E1=0∧PtI w g n bp V ⟨a,c,q⟩ X1 ⟨gen1,k1,F1,T1⟩ w5)∧(1=2→E1=0∧((c = -1∧PtI w g n bp V ⟨a,c,q⟩ X1 ⟨gen1,k1,F1,T1⟩ w5)∨(c≠-1∧E2=0∧PtI w g n bp V ⟨a,c,q⟩ X2 ⟨gen2,k2,F2,T2⟩ w5)))):=Lib.hid ⟨fun h=>by omega,fun _=>⟨e1,HI5.out⟩,fun h=>by omega⟩
      have e1':(E1 != 0)=false:=by simpa using e1
      clear e1
      go_wp2_with fail
      go_roundw
      case rel=>exact⟨1,by omega,rfl,hN⟩
      case measure=>simp[intOf]
     ·have hRR:=Lib.hid (P3.out e1)
      have e1':(E1 != 0)=true:=by simpa using e1
      have hz:=HI5.out.z
      clear e1 P3 P4 P5 P6
      go_wp2_with (first
       | (refine wpList_buildTo rfl 24 #[] rfl _ rfl (Pt.pV Pt.pz).toArray Pt.builtZ ?_; simp only[Act.put,aA])
       | (refine @wpList_store_row _ _ _ _ _ _ _ rfl 24 (.tmp 10) (.tmp 48) rfl (w.heap.size+1) (Pt.pV Pt.pz).toArray rfl rfl 24 _ hz (Pt.sizeP' _) rfl (Pt.pV_all _) ?_; simp only[Act.put]))
      refine bodyPost_ret (Pt.rTp rfl rfl rfl (setRow_heap _ _ _ _ _ _ hz)) rfl ?_
      obtain⟨t1,t2⟩:=HI5.out.end hgl HR1.out (Pt.pV Pt.pz).toArray
      exact⟨by rw[hRR.out]; try rfl,t1,by rw[hRR.out]; exact t2⟩
    | 1,_=>
     have hix:=run_index2B a c
     obtain⟨e1,hI⟩:=hR.out.2.1 rfl
     have HE1:=Lib.hid e1
     have HI:=Lib.hid hI
     clear e1
     by_cases ec:c = -1
     ·have e':(c == -1)=true:=by simpa using ec
      have hN:Hid ((2=0→PtI w g n bp V ⟨a,c,q⟩ X ⟨gen,k,F,T⟩ wr)∧(2=1→E1=0∧PtI w g n bp V ⟨a,c,q⟩ X1 ⟨gen1,k1,F1,T1⟩ wr)∧(2=2→E1=0∧((c = -1∧PtI w g n bp V ⟨a,c,q⟩ X1 ⟨gen1,k1,F1,T1⟩ wr)∨(c≠-1∧E2=0∧PtI w g n bp V ⟨a,c,q⟩ X2 ⟨gen2,k2,F2,T2⟩ wr)))):=Lib.hid ⟨fun h=>by omega,fun h=>by omega,fun _=>⟨HE1.out,.inl ⟨ec,hI⟩⟩⟩
      clear ec hI hR
      go_wp2_with fail
      go_roundw
      case rel=>exact⟨2,by omega,rfl,hN⟩
      case measure=>simp[intOf]
     ·have e':(c == -1)=false:=by simpa using ec
      have HEC:=Lib.hid ec
      have rv:=row_all hI.v
      have HC:=Lib.hid (HW2.out wr (HK.out wr hI.two) hI.d)
      clear hI hR HW1 HW2 ec
      go_wp2_with (refine @wG _ _ _ _ _ _ _ (by kernel_rfl) 47 (.tmp 7) rfl w.heap.size 0 rfl (bl V) _ rv undB rfl (sB V) ?_; simp only[Act.put,aA])
      refine HC.out.mono ?_
      rintro _ w5 ⟨rfl,hT5,hD5⟩
      have HI5:=Lib.hid (HI.out.turn hT5 hD5 hgl hbp)
      clear hT5 hD5 HC HI rv hix
      dsimp only
      by_cases e2:E2=0
      ·have hN:Hid ((2=0→PtI w g n bp V ⟨a,c,q⟩ X ⟨gen,k,F,T⟩ w5)∧(2=1→E1=0∧PtI w g n bp V ⟨a,c,q⟩ X1 ⟨gen1,k1,F1,T1⟩ w5)∧(2=2→E1=0∧((c = -1∧PtI w g n bp V ⟨a,c,q⟩ X1 ⟨gen1,k1,F1,T1⟩ w5)∨(c≠-1∧E2=0∧PtI w g n bp V ⟨a,c,q⟩ X2 ⟨gen2,k2,F2,T2⟩ w5)))):=Lib.hid ⟨fun h=>by omega,fun h=>by omega,fun _=>⟨HE1.out,.inr ⟨HEC.out,e2,HI5.out⟩⟩⟩
       have e2':(E2 != 0)=false:=by simpa using e2
       clear e2
       go_wp2_with fail
       go_roundw
       case rel=>exact⟨2,by omega,rfl,hN⟩
       case measure=>simp[intOf]
      ·have hRR:=Lib.hid (P5.out HE1.out HEC.out e2)
       have e2':(E2 != 0)=true:=by simpa using e2
       have hz:=HI5.out.z
       clear e2 P3 P4 P5 P6
       go_wp2_with (first
        | (refine wpList_buildTo rfl 24 #[] rfl _ rfl (Pt.pV Pt.pz).toArray Pt.builtZ ?_; simp only[Act.put,aA])
        | (refine @wpList_store_row _ _ _ _ _ _ _ rfl 24 (.tmp 10) (.tmp 48) rfl (w.heap.size+1) (Pt.pV Pt.pz).toArray rfl rfl 24 _ hz (Pt.sizeP' _) rfl (Pt.pV_all _) ?_; simp only[Act.put]))
       refine bodyPost_ret (Pt.rTp rfl rfl rfl (setRow_heap _ _ _ _ _ _ hz)) rfl ?_
       obtain⟨t1,t2⟩:=HI5.out.end hgl HR2.out (Pt.pV Pt.pz).toArray
       exact⟨by rw[hRR.out]; try rfl,t1,by rw[hRR.out]; exact t2⟩
    | 2,_=>
     obtain⟨e1,hcase⟩:=hR.out.2.2 rfl
     have HE1:=Lib.hid e1
     clear e1 hR HW1 HW2
     rcases hcase with ⟨ec,hI⟩ | ⟨ec,e2,hI⟩
     ·have hRR:=Lib.hid (P4.out HE1.out ec)
      have hz:=hI.z
      have rq:=Pt.rP hI.q
      have HI:=Lib.hid hI
      clear ec hI P3 P4 P5 P6
      go_wp2_with (first
       | (refine @wG _ _ _ _ _ _ _ (by kernel_rfl) 24 (.tmp 12) rfl bp 0 rfl (Pt.pV ⟨a,c,q⟩) _ rq Pt.undP rfl (Pt.sizeP ⟨a,c,q⟩) ?_; simp only[Act.put,aA])
       | (refine @wpList_store_row _ _ _ _ _ _ _ rfl 24 (.tmp 10) (.tmp 51) rfl (w.heap.size+1) (Pt.pV ⟨a,c,q⟩).toArray rfl rfl 24 _ hz (Pt.sizeP' _) rfl (Pt.pV_all _) ?_; simp only[Act.put]))
      refine bodyPost_ret (Pt.rTp rfl rfl rfl (setRow_heap _ _ _ _ _ _ hz)) rfl ?_
      obtain⟨t1,t2⟩:=HI.out.end hgl HR1.out (Pt.pV ⟨a,c,q⟩).toArray
      exact⟨by rw[hRR.out]; try rfl,t1,by rw[hRR.out]; exact t2⟩
     ·have hRR:=Lib.hid (P6.out HE1.out ec e2)
      have hz:=hI.z
      have rq:=Pt.rP hI.q
      have HI:=Lib.hid hI
      clear ec e2 hI P3 P4 P5 P6
      go_wp2_with (first
       | (refine @wG _ _ _ _ _ _ _ (by kernel_rfl) 24 (.tmp 12) rfl bp 0 rfl (Pt.pV ⟨a,c,q⟩) _ rq Pt.undP rfl (Pt.sizeP ⟨a,c,q⟩) ?_; simp only[Act.put,aA])
       | (refine @wpList_store_row _ _ _ _ _ _ _ rfl 24 (.tmp 10) (.tmp 51) rfl (w.heap.size+1) (Pt.pV ⟨a,c,q⟩).toArray rfl rfl 24 _ hz (Pt.sizeP' _) rfl (Pt.pV_all _) ?_; simp only[Act.put]))
      refine bodyPost_ret (Pt.rTp rfl rfl rfl (setRow_heap _ _ _ _ _ _ hz)) rfl ?_
      obtain⟨t1,t2⟩:=HI.out.end hgl HR2.out (Pt.pV ⟨a,c,q⟩).toArray
      exact⟨by rw[hRR.out]; try rfl,t1,by rw[hRR.out]; exact t2⟩
    | j+3,h=>omega
end Di
end Go.Proofs.YteaocagepfgfnaaGreatDoor
