import Derived.Test.YteaocagepfgfnaaGreatDoorPJRv
set_option maxRecDepth 100000
set_option maxHeartbeats 8000000
namespace Go.Proofs.YteaocagepfgfnaaGreatDoor
namespace Rm
open Go.RowKit Dk Byt
def formed(n:Nat)(X:Dst):Prop:=formedB n X.m X.C=true
theorem formed_more{n m m':Nat}{C C':Nat→Wr}(h:formedB n m C=true)(hi:inAll n C' m'=true):formedB n m' C'=true:=by
 unfold formedB at h ⊢
 simp only[Bool.and_eq_true] at h ⊢
 exact⟨h.1,hi⟩
theorem formed.wr{n:Nat}{X:Dst}(h:formed n X)(a:Int)(D:Nat→Int):formed n (dWr n X a D):=by
 show formedB n (wrM n X.m X.S X.C X.f X.d a) (wrC n X.m X.S X.C X.f X.d a D)=true
 unfold wrM wrC
 by_cases e:wrE n X.m X.S X.C X.f X.d a=0
 ·rw[if_pos e,if_pos e]
  refine formed_more h (inAll_upd X.m (formed_n h).2 ?_)
  unfold wrE wrOk at e
  by_cases hb:hasB n a=true
  ·exact hb
  ·rw[Bool.not_eq_true] at hb
   rw[hb] at e
   simp at e
 ·rw[if_neg e,if_neg e]; exact h
theorem formed.fl{n:Nat}{X:Dst}(h:formed n X):formed n (dFl n X):=by
 show formedB n (flM n X.m X.C X.f X.d) X.C=true
 unfold flM
 split
 ·exact formed_more h rfl
 ·exact h
theorem formed.sp{n k:Nat}{T V:Nat→Int}{X:Dst}(h:formed n X):∀i,formed n (spS n k T V X i)
 | 0=>h
 | i+1=>by
  simp only[spS]
  split
  ·exact(formed.sp h i).wr _ _
  ·exact formed.sp h i
theorem formed.spX{n k:Nat}{T V:Nat→Int}{X:Dst}(h:formed n X):formed n (spX n k T V X):=by
 unfold Rm.spX
 split
 ·exact h.sp _
 ·exact h.sp _
theorem formed.hf{n:Nat}{X:Dst}(h:formed n X):hfN n X=halfN n:=by unfold hfN; rw[if_pos (show formedB n X.m X.C=true from h)]
section
variable {n:Nat}{X:Dst}{gen:Int}{k:Nat}{F T:Nat→Int}{h:Int}
end
end Rm
namespace Rm
open Go.RowKit Dk Byt
def lk(X:Dst)(a:Int):Bool × (Nat→Int):=match lastW X.C a X.m with
 | some j=>(false,(X.C j).data)
 | none=>((X.S a.toNat).noRead,(X.S a.toNat).data)
theorem lastW_congr{C C':Nat→Wr}{a:Int}:∀m,(∀j,j < m→C j=C' j)→lastW C a m=lastW C' a m
 | 0,_=>rfl
 | m+1,h=>by
  simp only[lastW]
  rw[h m (by omega),lastW_congr m fun j hj=>h j (by omega)]
theorem lastW_lt{C:Nat→Wr}{a:Int}{j:Nat}:∀m,lastW C a m=some j→j < m
 | 0,h=>by cases h
 | m+1,h=>by
  simp only[lastW] at h
  split at h
  ·cases h; omega
  ·have:=lastW_lt m h; omega
theorem dWr_no{n:Nat}{X:Dst}{a:Int}{D:Nat→Int}(h:dWrE n X a≠0):(dWr n X a D).m=X.m∧(dWr n X a D).C=X.C∧(dWr n X a D).S=X.S:=by
 unfold dWrE at h
 unfold dWr wrM wrC
 dsimp only
 rw[if_neg h,if_neg h]
 exact⟨rfl,rfl,rfl⟩
theorem dWr_yes{n:Nat}{X:Dst}{a:Int}{D:Nat→Int}(h:dWrE n X a=0):(dWr n X a D).m=X.m+1∧(dWr n X a D).C=updC X.C X.m ⟨a,D⟩∧(dWr n X a D).S=X.S:=by
 unfold dWrE at h
 unfold dWr wrM wrC
 dsimp only
 rw[if_pos h,if_pos h]
 exact⟨rfl,rfl,rfl⟩
theorem lk_of{X Y:Dst}(hm:Y.m=X.m)(hC:Y.C=X.C)(hS:Y.S=X.S)(a:Int):lk Y a=lk X a:=by
 unfold lk
 rw[hm,hC,hS]
theorem lk_fail{n:Nat}{X:Dst}{a:Int}{D:Nat→Int}(h:dWrE n X a≠0)(c:Int):lk (dWr n X a D) c=lk X c:=by
 obtain⟨h1,h2,h3⟩:=dWr_no (D:=D) h
 exact lk_of h1 h2 h3 c
theorem lk_same{n:Nat}{X:Dst}{a:Int}{D:Nat→Int}(h:dWrE n X a=0):lk (dWr n X a D) a=(false,D):=by
 obtain⟨h1,h2,_⟩:=dWr_yes (D:=D) h
 unfold lk
 rw[h1,h2]
 simp[lastW,updC]
theorem lk_other{n:Nat}{X:Dst}{a c:Int}{D:Nat→Int}(hc:c≠a):lk (dWr n X a D) c=lk X c:=by
 by_cases h:dWrE n X a=0
 ·obtain⟨h1,h2,h3⟩:=dWr_yes (D:=D) h
  have e:lastW (updC X.C X.m ⟨a,D⟩) c (X.m+1)=lastW X.C c X.m:=by
   simp only[lastW]
   rw[if_neg (by simp[updC]; exact fun h=>hc h.symm)]
   exact lastW_congr _ fun j hj=>by unfold updC; rw[if_neg (by omega)]
  unfold lk
  rw[h1,h2,h3,e]
  cases hl:lastW X.C c X.m with
  | none=>rfl
  | some j=>
   have:=lastW_lt _ hl
   dsimp only
   unfold updC
   rw[if_neg (by omega)]
 ·exact lk_fail h c
theorem up_of{n:Nat}{X:Dst}{a:Int}(h:dWrE n X a=0∨dWrE n X a=2):wrOk n X.m X.C a=true∧X.d=false∧X.f≠0:=by
 unfold dWrE wrE at h
 split at h
 ·rename_i h1
  split at h
  ·rename_i h2
   unfold actE at h2
   split at h2
   ·omega
   ·rename_i h3
    refine⟨h1,?_,fun e=>h3 (.inr e)⟩
    cases hd:X.d with
    | false=>rfl
    | true=>exact absurd (.inl hd) h3
  ·omega
 ·omega
theorem up_wr{n:Nat}{X:Dst}{a:Int}{D:Nat→Int}(h:dWrE n X a=0∨dWrE n X a=2):(dWr n X a D).d=false:=by
 obtain⟨_,h2,h3⟩:=up_of h
 unfold dWr wrD actD
 dsimp only
 split <;> simp[h2,h3]
theorem up_fl{n:Nat}{X:Dst}(h:dFlE n X=0):flOk n X.m X.C X.f X.d=true∧X.d=false∧(dFl n X).d=false:=by
 unfold dFlE flE at h
 split at h
 ·rename_i h1
  have h2:=h
  unfold actE at h2
  split at h2
  ·omega
  ·rename_i h3
   have hd:X.d=false:=by
    cases hd:X.d with
    | false=>rfl
    | true=>exact absurd (.inl hd) h3
   have hf:X.f≠0:=fun e=>h3 (.inr e)
   refine⟨by unfold flOk; rw[h1,h]; rfl,hd,?_⟩
   unfold dFl flD actD
   dsimp only
   rw[if_pos h1,hd]
   simp[hf]
 ·omega
theorem st_lk{n:Nat}{S:Nat→Sec}{C:Nat→Wr}{c:Int}(hc:0≤c):∀m,inAll n C m=true→((stS S C (fun _=>true) m c.toNat).noRead,(stS S C (fun _=>true) m c.toNat).data) =
  match lastW C c m with
  | some j=>(false,(C j).data)
  | none=>((S c.toNat).noRead,(S c.toNat).data)
 | 0,_=>rfl
 | m+1,h=>by
  simp only[inAll,Bool.and_eq_true] at h
  have ih:=st_lk (S:=S) hc m h.1
  have hp:=hasB_nat h.2
  simp only[stS,lastW,if_true]
  by_cases e:(C m).place=c
  ·rw[if_pos e]
   subst e
   simp[upd]
  ·rw[if_neg e]
   unfold upd
   rw[if_neg (by omega)]
   exact ih
theorem lk_flush{n:Nat}{X:Dst}(h:dFlE n X=0)(hf:formed n X){c:Int}(hc:0≤c):lk (dFl n X) c=lk X c:=by
 obtain⟨h1,_,_⟩:=up_fl h
 have:=st_lk (n:=n) (S:=X.S) (C:=X.C) hc X.m (formed_n hf).2
 unfold lk
 show(match lastW X.C c (flM n X.m X.C X.f X.d) with | some j=>_ | none=>((flS n X.m X.S X.C X.f X.d c.toNat).noRead,(flS n X.m X.S X.C X.f X.d c.toNat).data))=_
 unfold flM flS
 rw[if_pos h1,if_pos h1]
 exact this
theorem spF_ex{n k:Nat}{T V:Nat→Int}{X:Dst}:∀m:Nat,0≤spF n k T V X m→∃i:Nat,i < m∧spF n k T V X m=(i:Int)∧stopB n k T V X i=true∧∀j,j < i→stopB n k T V X j=false
 | 0,h=>by simp[spF] at h
 | m+1,h=>by
  simp only[spF] at h ⊢
  by_cases h0:0≤spF n k T V X m
  ·obtain⟨i,h1,h2,h3,h4⟩:=spF_ex m h0
   rw[if_pos h0]
   exact⟨i,by omega,h2,h3,h4⟩
  ·rw[if_neg h0] at h ⊢
   by_cases hs:stopB n k T V X m=true
   ·rw[if_pos hs]
    refine⟨m,by omega,rfl,hs,fun j hj=>?_⟩
    cases hj':stopB n k T V X j with
    | false=>rfl
    | true=>
     exfalso
     obtain⟨i,hi,hi1,hi2⟩:∃i:Nat,i < m∧stopB n k T V X i=true∧∀j,j < i→stopB n k T V X j=false:=by
      have:∀q:Nat,q < m→stopB n k T V X q=true→∃i:Nat,i < m∧stopB n k T V X i=true∧∀j,j < i→stopB n k T V X j=false:=by
       intro q
       induction q using Nat.strongRecOn with
       | _ q ih=>
        intro hq hq'
        by_cases hx:∃j,j < q∧stopB n k T V X j=true
        ·obtain⟨j,hj,hj'⟩:=hx
         exact ih j hj (by omega) hj'
        ·exact⟨q,hq,hq',fun j hj=>by
          cases hv:stopB n k T V X j with
          | false=>rfl
          | true=>exact absurd ⟨j,hj,hv⟩ hx⟩
      exact this j hj hj'
     have:=spF_at hi2 hi1 m hi
     omega
   ·rw[if_neg hs] at h
    omega
theorem sp_found{n k:Nat}{T V:Nat→Int}{X:Dst}(h:spE n k T V X=0):∃i:Nat,i < 20∧spTo n k T V X=(n:Int) - 20+i∧spC n k T V X i=0∧spX n k T V X=dWr n (spS n k T V X i) ((n:Int) - 20+i) V∧noneB T ((n:Int) - 20+i) k=true∧∀j,j < i→stopB n k T V X j=false:=by
 by_cases h0:0≤spF n k T V X 20
 ·obtain⟨i,h1,h2,h3,h4⟩:=spF_ex 20 h0
  obtain⟨e1,e2,e3⟩:=sp_at h4 h3 h1
  have hn:noneB T ((n:Int) - 20+i) k=true:=by
   unfold stopB at h3
   simp only[Bool.and_eq_true] at h3
   exact h3.1
  refine⟨i,h1,e1,by rw[←e2]; exact h,?_,hn,h4⟩
  rw[e3]
  simp only[spS]
  rw[if_pos hn]
 ·unfold spE at h
  rw[if_neg h0] at h
  omega
theorem lk_sp{n k:Nat}{T V:Nat→Int}{X:Dst}(hd:X.d=false)(c:Int):∀i,(∀j,j < i→stopB n k T V X j=false)→lk (spS n k T V X i) c=lk X c∧(spS n k T V X i).d=false
 | 0,_=>⟨rfl,hd⟩
 | i+1,h=>by
  obtain⟨ih,ih2⟩:=lk_sp hd c i fun j hj=>h j (by omega)
  have hs:=h i (by omega)
  simp only[spS]
  by_cases hn:noneB T ((n:Int) - 20+i) k=true
  ·rw[if_pos hn]
   unfold stopB at hs
   rw[hn] at hs
   have he:dWrE n (spS n k T V X i) ((n:Int) - 20+i)=2:=by
    rw[Bool.true_and,decide_eq_false_iff_not] at hs
    exact Decidable.not_not.1 hs
   exact⟨(lk_fail (by omega) c).trans ih,up_wr (.inr he)⟩
  ·rw[if_neg hn]
   exact⟨ih,ih2⟩
theorem lk_ly{n:Nat}{hh r:Int}{P:Nat→Int}{X:Dst}{c:Int}(h0:c≠r)(h1:c≠hh+r):lk (lyX' n hh r P X) c=lk X c:=by
 have e1:lk (lyS n hh r P X 1) c=lk X c:=by
  simp only[lyS]
  exact lk_other (by simpa using h0)
 unfold lyX'
 split
 ·exact e1
 ·have:lyS n hh r P X 2=dWr n (lyS n hh r P X 1) (1 * hh+r) P:=by simp[lyS]
  rw[this]
  exact(lk_other (by rw[Int.one_mul]; exact h1)).trans e1
theorem formed.ly{n:Nat}{hh r:Int}{P:Nat→Int}{X:Dst}(h:formed n X):formed n (lyX' n hh r P X):=by
 unfold lyX'
 split
 ·exact h.wr _ _
 ·exact(h.wr _ _).wr _ _
theorem findI_congr{F G:Nat→Int}{y:Int}:∀k,(∀i,i < k→F i=G i)→findI F y k=findI G y k
 | 0,_=>rfl
 | k+1,h=>by
  simp only[findI]
  rw[h k (by omega),findI_congr k fun i hi=>h i (by omega)]
theorem at_same{F T:Nat→Int}{k:Nat}{x to:Int}:atT (rpF F k x) (rpT F T k x to) (rpK F k x) x=to:=by
 by_cases h:0≤findI F x k
 ·obtain⟨j,hj⟩:=Int.eq_ofNat_of_zero_le h
  obtain⟨e1,e2,e3⟩:=rp_found (T:=T) (to:=to) hj
  rw[e1,e2,e3]
  unfold atT
  rw[if_pos h,hj]
  simp
 ·obtain⟨e1,e2,e3⟩:=rp_new (T:=T) (to:=to) (show findI F x k < 0 by omega)
  rw[e1,e2,e3]
  have hf:findI (fun i=>if i=k then x else F i) x (k+1)=(k:Int):=by
   simp only[findI]
   rw[findI_congr (G:=F) k fun i hi=>by rw[if_neg (by omega)],if_neg h]
   simp
  unfold atT
  rw[hf,if_pos (by omega)]
  simp
theorem at_other{F T:Nat→Int}{k:Nat}{x y to:Int}(hy:y≠x):atT (rpF F k x) (rpT F T k x to) (rpK F k x) y=atT F T k y:=by
 by_cases h:0≤findI F x k
 ·obtain⟨j,hj⟩:=Int.eq_ofNat_of_zero_le h
  obtain⟨e1,e2,e3⟩:=rp_found (T:=T) (to:=to) hj
  rw[e1,e2,e3]
  unfold atT
  have hbx:=(find_bd F x k).2.2 h
  have hby:=(find_bd F y k).2.2
  by_cases h1:0≤findI F y k
  ·rw[if_pos h1,if_pos h1]
   show(if (findI F y k).toNat=j then to else _)=_
   rw[if_neg]
   intro e
   rw[hj,Int.toNat_natCast] at hbx
   exact hy ((hby h1).symm.trans (by rw[e,hbx]))
  ·rw[if_neg h1,if_neg h1]
 ·obtain⟨e1,e2,e3⟩:=rp_new (T:=T) (to:=to) (show findI F x k < 0 by omega)
  rw[e1,e2,e3]
  have hf:findI (fun i=>if i=k then x else F i) y (k+1)=findI F y k:=by
   simp only[findI]
   rw[findI_congr (G:=F) k fun i hi=>by rw[if_neg (by omega)]]
   split
   ·rfl
   ·rw[if_pos trivial,if_neg (fun e=>hy e.symm)]
    have:=(find_bd F y k).1
    omega
  unfold atT
  rw[hf]
  have:=(find_bd F y k).2.1
  split
  ·show(if (findI F y k).toNat=k then to else _)=_
   rw[if_neg (by omega)]
  ·rfl
theorem at_place{n:Nat}{gen:Int}{k:Nat}{F T:Nat→Int}{y:Int}(hr:rightB n gen k F T=true)(hl:lentB (halfN n) y=true) :
  0≤atT F T k y∧atT F T k y < n∧(∀r:Int,0≤r→r < 2→atT F T k y≠r∧atT F T k y≠halfN n+r)∧
  (∀z,noneB T z k=true→2 * halfN n≤z→atT F T k y≠z):=by
 obtain⟨h0,_,_,_,hp,_,_⟩:=right_parts hr
 obtain⟨_,_,hh⟩:=halfN_bd n
 obtain⟨h4,hn⟩:=hh h0
 have hp':=pairsB_iff.1 hp
 obtain⟨l0,l1,l2⟩:=lent_bd hl
 unfold atT
 have hb:=find_bd F y k
 split
 ·rename_i h1
  have h2:=hp' (findI F y k).toNat (by omega)
  unfold pairB at h2
  simp only[Bool.and_eq_true,decide_eq_true_eq] at h2
  refine⟨by omega,by omega,fun r _ _=>⟨by omega,by omega⟩,fun z hz _ e=>?_⟩
  exact noneB_iff.1 hz (findI F y k).toNat (by omega) e
 ·refine⟨by omega,by omega,fun r hr0 hr1=>⟨?_,?_⟩,fun z _ hz=>by omega⟩
  ·rintro rfl
   rw[Int.emod_eq_of_lt (by omega) (by omega)] at l2
   omega
  ·rintro rfl
   rw[Int.add_emod_left,Int.emod_eq_of_lt (by omega) (by omega)] at l2
   omega
theorem at_ne{n:Nat}{gen:Int}{k:Nat}{F T:Nat→Int}{x y:Int}(hr:rightB n gen k F T=true)(hx:lentB (halfN n) x=true)(hy:lentB (halfN n) y=true)(hxy:y≠x):atT F T k y≠atT F T k x:=by
 obtain⟨h0,_,_,_,hp,_,hd⟩:=right_parts hr
 have hp':=pairsB_iff.1 hp
 have hd':=distB_iff.1 hd
 obtain⟨_,x1,_⟩:=lent_bd hx
 obtain⟨_,y1,_⟩:=lent_bd hy
 have bx:=find_bd F x k
 have by':=find_bd F y k
 unfold atT
 split <;> split
 ·rename_i h1 h2
  refine hd' _ _ (by omega) (by omega) fun e=>hxy ?_
  rw[←by'.2.2 h1,←bx.2.2 h2,e]
 ·rename_i h1 h2
  have h3:=hp' (findI F y k).toNat (by omega)
  unfold pairB at h3
  simp only[Bool.and_eq_true,decide_eq_true_eq] at h3
  omega
 ·rename_i h1 h2
  have h3:=hp' (findI F x k).toNat (by omega)
  unfold pairB at h3
  simp only[Bool.and_eq_true,decide_eq_true_eq] at h3
  omega
 ·exact hxy
theorem home_iff{n:Nat}{X:Dst}{gen:Int}{k:Nat}{F T:Nat→Int}{x:Int}(hf:formed n X)(hr:rightB n gen k F T=true):homeB n X gen k F T x=lentB (halfN n) x:=by
 unfold homeB
 rw[hf.hf,hr,decide_eq_true (right_parts hr).1]
 rfl
theorem home_all{n:Nat}{X:Dst}{gen:Int}{k:Nat}{F T:Nat→Int}{x:Int}(h:homeB n X gen k F T x=true):formed n X∧rightB n gen k F T=true∧lentB (halfN n) x=true:=by
 unfold homeB at h
 simp only[Bool.and_eq_true,decide_eq_true_eq] at h
 obtain⟨⟨h1,h2⟩,h3⟩:=h
 unfold hfN at h1 h3
 split at h1
 ·rename_i h4
  rw[if_pos h4] at h3
  exact⟨h4,h2,h3⟩
 ·exact absurd rfl h1
theorem rE_lk{n:Nat}{X:Dst}{gen:Int}{k:Nat}{F T:Nat→Int}{y:Int}(h:homeB n X gen k F T y=true)(hd:X.d=false) :
  rE n X gen k F T y=(if (lk X (atT F T k y)).1 then 2 else 0)∧rV n X gen k F T y=if (lk X (atT F T k y)).1 then fun _=>0 else (lk X (atT F T k y)).2:=by
 obtain⟨hf,hr,hl⟩:=home_all h
 obtain⟨a0,a1,_⟩:=at_place hr hl
 have hok:rdOk n X.m X.C (atT F T k y)=true:=by
  unfold rdOk hasB
  rw[show formedB n X.m X.C=true from hf]
  simp[a0,a1]
 unfold rE rV
 rw[if_pos h,if_pos h]
 generalize atT F T k y=a at hok
 have hE:rdE n X.m X.S X.C X.d a=if (lk X a).1 then 2 else 0:=by
  unfold rdE lk
  rw[if_pos hok,hd]
  cases lastW X.C a X.m with
  | none=>rfl
  | some j=>rfl
 refine⟨hE,?_⟩
 unfold rdV
 rw[hE]
 unfold lk
 cases lastW X.C a X.m with
 | none=>
  dsimp only
  cases (X.S a.toNat).noRead with
  | false=>rfl
  | true=>rfl
 | some j=>rfl
theorem r_not{n:Nat}{X:Dst}{gen:Int}{k:Nat}{F T:Nat→Int}{y:Int}(h:homeB n X gen k F T y=false):rE n X gen k F T y=1∧rV n X gen k F T y=fun _=>0:=by
 unfold rE rV
 rw[h]
 exact⟨rfl,rfl⟩
theorem wr_ok{n:Nat}{X:Dst}{M:Tab}{x:Int}{V:Nat→Int}(h:(wRes n X M x V).1=0) :
  homeB n X M.gen M.k M.F M.T x=true∧X.d=false∧(wRes n X M x V).2.1.d=false∧formed n (wRes n X M x V).2.1∧
  rightB n (wRes n X M x V).2.2.gen (wRes n X M x V).2.2.k (wRes n X M x V).2.2.F (wRes n X M x V).2.2.T=true∧
  lk (wRes n X M x V).2.1 (atT (wRes n X M x V).2.2.F (wRes n X M x V).2.2.T (wRes n X M x V).2.2.k x)=(false,V)∧
  ∀y,lentB (halfN n) y=true→y≠x→lk (wRes n X M x V).2.1 (atT (wRes n X M x V).2.2.F (wRes n X M x V).2.2.T (wRes n X M x V).2.2.k y)=lk X (atT M.F M.T M.k y):=by
 cases hom:homeB n X M.gen M.k M.F M.T x with
 | false=>rw[w_c0 hom] at h; cases h
 | true=>
  obtain⟨hf,hr,hl⟩:=home_all hom
  by_cases e1:dWrE n X (wA M x)=2
  ·obtain⟨_,hd,_⟩:=up_of (.inr e1)
   by_cases e2:spE n M.k M.T V (w1X n X M x V)=0
   ·by_cases e3:dFlE n (w2X n X M x V)=0
    ·by_cases e4:w4E n X M x V=0
     ·by_cases e5:dFlE n (w4X n X M x V)=0
      ·rw[w_c6 hom e1 e2 e3 e4 e5]
       dsimp only
       obtain⟨i,hi,hto,hsc,hsx,hnn,hst⟩:=sp_found e2
       have hd1:(w1X n X M x V).d=false:=up_wr (.inr e1)
       obtain⟨h0,_,_,_,_,_,_⟩:=right_parts hr
       obtain⟨_,_,hh⟩:=halfN_bd n
       obtain⟨h4,hn⟩:=hh h0
       have hf1:formed n (w1X n X M x V):=hf.wr _ _
       have hf2:formed n (w2X n X M x V):=hf1.spX
       have hf3:formed n (w3X n X M x V):=hf2.fl
       obtain⟨_,_,hd3⟩:=up_fl e3
       have hpe:putEr n (wN n X M x V).gen (wN n X M x V).k (wN n X M x V).F (wN n X M x V).T=0:=by
        unfold w4E lyE at e4
        split at e4
        ·assumption
        ·exact e4
       have hrN:rightB n (wN n X M x V).gen (wN n X M x V).k (wN n X M x V).F (wN n X M x V).T=true:=by
        unfold putEr at hpe
        split at hpe
        ·assumption
        ·omega
       have hx4:w4X n X M x V=lyX' n (halfN n) ((wN n X M x V).gen % 2) (putV n (wN n X M x V).gen (wN n X M x V).k (wN n X M x V).F (wN n X M x V).T) (w3X n X M x V):=by
        unfold w4X lyX
        rw[if_pos hpe,hf3.hf]
       have hf4:formed n (w4X n X M x V):=by rw[hx4]; exact hf3.ly
       have hF:(wN n X M x V).F=rpF M.F M.k x:=rfl
       have hT:(wN n X M x V).T=rpT M.F M.T M.k x ((n:Int) - 20+i):=by unfold wN Tab.next; rw[hto]
       have hK:(wN n X M x V).k=rpK M.F M.k x:=rfl
       have hto0:2 * halfN n≤(n:Int) - 20+i:=by omega
       have hg2:0≤(wN n X M x V).gen % 2∧(wN n X M x V).gen % 2 < 2:=by omega
       have step:∀c:Int,0≤c→(∀r:Int,0≤r→r < 2→c≠r∧c≠halfN n+r)→lk (dFl n (w4X n X M x V)) c=lk (w2X n X M x V) c:=by
        intro c hc hcr
        rw[lk_flush e5 hf4 hc,hx4,lk_ly (hcr _ hg2.1 hg2.2).1 (hcr _ hg2.1 hg2.2).2]
        exact lk_flush e3 hf2 hc
       refine⟨rfl,hd,(up_fl e5).2.2,hf4.fl,hrN,?_,fun y hy hyx=>?_⟩
       ·rw[hF,hT,hK,at_same,step _ (by omega) (fun r _ _=>⟨by omega,by omega⟩)]
        unfold w2X
        rw[hsx]
        exact lk_same hsc
       ·rw[hF,hT,hK,at_other hyx]
        obtain⟨p0,_,p2,p3⟩:=at_place hr hy
        rw[step _ p0 p2]
        unfold w2X
        rw[hsx,lk_other (p3 _ hnn hto0),(lk_sp hd1 _ i hst).1]
        exact lk_fail (by omega) _
      ·rw[w_c5 hom e1 e2 e3 e4 e5] at h; exact absurd h e5
     ·rw[w_c4 hom e1 e2 e3 e4] at h; exact absurd h e4
    ·rw[w_c3 hom e1 e2 e3] at h; exact absurd h e3
   ·rw[w_c2 hom e1 e2] at h; exact absurd h e2
  ·rw[w_c1 hom e1] at h ⊢
   have h':dWrE n X (wA M x)=0:=h
   obtain⟨_,hd,_⟩:=up_of (.inl h')
   dsimp only
   refine⟨rfl,hd,up_wr (.inl h'),hf.wr _ _,hr,lk_same h',fun y hy hyx=>?_⟩
   exact lk_other (at_ne hr hl hy hyx)
end Rm
end Go.Proofs.YteaocagepfgfnaaGreatDoor
