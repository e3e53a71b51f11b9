import Derived.Deep.QuietTactic
import Derived.BigQuiet
import Derived.Orders
import Derived.Test.YteaocagepfgfnaaGreatDoorPJSpB
set_option maxRecDepth 100000
set_option maxHeartbeats 8000000
namespace Go.Proofs.YteaocagepfgfnaaGreatDoor
namespace QuietTail2
open Go
variable {P:Program}
def backB(ops:Array Oper)(n:Nat):Bool:=
 (List.range ops.size).all fun i=>match ops[i]? with
  | some o=>(o.after.all fun e=>!Region.binds .any e || decide (e.on < i)) && (if i < n then o.guard == none else (List.range n).all (fun j=>o.after.any fun e=>Region.binds .any e && e.on == j) && (i == n || o.after.any fun e=>Region.binds .any e && e.on == i - 1))
  | none=>true
structure Back(ops:Array Oper)(n:Nat):Prop where
 back:∀(i:Nat) (o:Oper),ops[i]?=some o→∀e ∈ o.after,Region.binds .any e=true→e.on < i
 free:∀(i:Nat) (o:Oper),ops[i]?=some o→i < n→o.guard=none
 wait:∀(i:Nat) (o:Oper),ops[i]?=some o→n≤i→∀j,j < n→∃e ∈ o.after,Region.binds .any e=true∧e.on=j
 chain:∀(i:Nat) (o:Oper),ops[i]?=some o→n < i→∃e ∈ o.after,Region.binds .any e=true∧e.on=i - 1
theorem back_of{ops:Array Oper}{n:Nat}(h:backB ops n=true):Back ops n:=by
 have key:∀(i:Nat) (o:Oper),ops[i]?=some o→(o.after.all fun e=>!Region.binds .any e || decide (e.on < i))=true∧(if i < n then o.guard == none else (List.range n).all (fun j=>o.after.any fun e=>Region.binds .any e && e.on == j) && (i == n || o.after.any fun e=>Region.binds .any e && e.on == i - 1))=true:=by
  intro i o ho
  have hi:i < ops.size:=(Array.getElem?_eq_some_iff.1 ho).1
  have h1:=List.all_eq_true.1 h i (List.mem_range.2 hi)
  simp only[ho,Bool.and_eq_true] at h1
  exact h1
 refine⟨fun i o ho e he hbd=>?_,fun i o ho hi=>?_,fun i o ho hi j hj=>?_,fun i o ho hi=>?_⟩
 ·have h1:=Array.all_eq_true'.1 (key i o ho).1 e he
  simpa[hbd] using h1
 ·have h1:=(key i o ho).2
  rw[if_pos hi] at h1
  simpa using h1
 ·have h1:=(key i o ho).2
  rw[if_neg (by omega)] at h1
  have h2:=List.all_eq_true.1 (Bool.and_eq_true_iff.1 h1).1 j (List.mem_range.2 hj)
  obtain⟨e,he,hb⟩:=Array.any_eq_true'.1 h2
  simp only[Bool.and_eq_true,beq_iff_eq] at hb
  exact⟨e,he,hb.1,hb.2⟩
 ·have h1:=(key i o ho).2
  rw[if_neg (by omega)] at h1
  have h2:=(Bool.and_eq_true_iff.1 h1).2
  rw[show(i == n)=false by rw[beq_eq_false_iff_ne]; omega,Bool.false_or] at h2
  obtain⟨e,he,hb⟩:=Array.any_eq_true'.1 h2
  simp only[Bool.and_eq_true,beq_iff_eq] at hb
  exact⟨e,he,hb.1,hb.2⟩
theorem seq{ops:Array Oper}{n:Nat}{Q:Exit→Act→World→Prop}(B:Back ops n):∀(l:List Oper) (k f:Nat) (listed:Array Bool) (a:Act) (w:World),
  n≤k→k+l.length=ops.size→l.length≤f→(∀j,l[j]?=ops[k+j]?)→listed.size=ops.size→(∀i,i < k→listed.getD i false=true)→(∀i,k≤i→listed.getD i false=false)→
  wpList P ops Q l a w→wpAny P .any ops Q f listed a w:=by
 intro l
 induction l with
 | nil=>
  intro k f listed a w hk hlen hf hl hs h1 h2 h
  have hr:Region.ready .any ops listed=[]:=by
   cases hc:Region.ready .any ops listed with
   | nil=>rfl
   | cons i r=>
    have hm:i ∈ Region.ready .any ops listed:=by rw[hc]; simp
    obtain⟨hun,o,ho,_⟩:=mem_ready.1 hm
    have hi:i < ops.size:=(Array.getElem?_eq_some_iff.1 ho).1
    have:=h1 i (by simp at hlen; omega)
    have hi':i < listed.size:=by omega
    simp[hi'] at hun this
    rw[this] at hun; cases hun
  cases f with
  | zero=>exact⟨hr,h⟩
  | succ f=>exact⟨fun _=>h,fun i hi=>by rw[hr] at hi; cases hi⟩
 | cons o l ih=>
  intro k f listed a w hk hlen hf hl hs h1 h2 h
  have h0:ops[k]?=some o:=by simpa using (hl 0).symm
  have hks:k < ops.size:=(Array.getElem?_eq_some_iff.1 h0).1
  obtain⟨f,rfl⟩:∃g,f=g+1:=⟨f - 1,by simp at hf; omega⟩
  have hkr:k ∈ Region.ready .any ops listed:=by
   refine mem_ready.2 ⟨?_,o,h0,fun e he hb=>h1 e.on (B.back k o h0 e he hb)⟩
   have:=h2 k (Nat.le_refl _)
   have hk':k < listed.size:=by omega
   simp[hk'] at this ⊢; exact this
  refine⟨fun hr=>(by rw[hr] at hkr; cases hkr),fun i hi=>?_⟩
  obtain⟨hun,oi,hoi,hall⟩:=mem_ready.1 hi
  have his:i < ops.size:=(Array.getElem?_eq_some_iff.1 hoi).1
  have hik:i=k:=by
   rcases Nat.lt_trichotomy i k with hlt | heq | hgt
   ·have:=h1 i hlt
    have hi':i < listed.size:=by omega
    simp[hi'] at hun this
    rw[this] at hun; cases hun
   ·exact heq
   ·obtain⟨e,he,hb,hon⟩:=B.chain i oi hoi (by omega)
    have:=hall e he hb
    rw[hon,h2 (i - 1) (by omega)] at this
    cases this
  subst hik
  have hw:wpOp P ops Q i (wpList P ops Q l) a w:=by unfold wpOp; simp only[h0]; exact h
  refine wpOp_mono (fun a' w' h'=>?_) hw
  refine ih (i+1) f (listed.setIfInBounds i true) a' w' (by omega) (by simp only[List.length_cons] at hlen; omega) (by simp only[List.length_cons] at hf; omega)
   (fun j=>by have:=hl (j+1); simpa[Nat.add_assoc,Nat.add_comm 1 j] using this) (by simpa using hs) (fun j hj=>?_) (fun j hj=>?_) h'
  ·by_cases hji:i=j
   ·subst hji
    have hi':i < listed.size:=by omega
    simp[hi']
   ·have:=h1 j (by omega)
    simp only[Array.getD_eq_getD_getElem?,Array.getElem?_setIfInBounds,if_neg hji] at this ⊢
    exact this
  ·have hji:¬ i=j:=by omega
   have:=h2 j (by omega)
   simp only[Array.getD_eq_getD_getElem?,Array.getElem?_setIfInBounds,if_neg hji] at this ⊢
   exact this
theorem getD_replicate_false'(m j:Nat):(Array.replicate m false).getD j false=false:=by
 rcases Nat.lt_or_ge j m with h | h
 ·simp[h]
 ·simp[h]
structure Inv'(l:List Oper)(n:Nat)(listed head:Array Bool):Prop where
 size:listed.size=l.length
 hsize:head.size=n
 same:∀i,i < n→listed.getD i false=head.getD i false
 tail:∀i,n≤i→listed.getD i false=false
theorem getD_tf{listed:Array Bool}{i:Nat}(hi:i < listed.size):listed.getD i true=listed.getD i false:=by simp[hi]
theorem Inv'.ready{l:List Oper}{n:Nat}{listed head:Array Bool}(v:Inv' l n listed head)(B:Back l.toArray n)(hn:n≤l.length){i:Nat}(hi:i < n) :
  i ∈ Region.ready .any l.toArray listed↔i ∈ Region.ready .any (l.take n).toArray head:=by
 have e:(l.take n).toArray[i]?=l.toArray[i]?:=by simp[hi]
 have hl:i < listed.size:=by have:=v.size; omega
 have hh:i < head.size:=by have:=v.hsize; omega
 rw[mem_ready,mem_ready,e,getD_tf hl,getD_tf hh,v.same i hi]
 constructor
 ·rintro⟨h1,o,ho,h2⟩
  exact⟨h1,o,ho,fun e' he hb=>(v.same e'.on (Nat.lt_trans (B.back i o ho e' he hb) hi)).symm.trans (h2 e' he hb)⟩
 ·rintro⟨h1,o,ho,h2⟩
  exact⟨h1,o,ho,fun e' he hb=>(v.same e'.on (Nat.lt_trans (B.back i o ho e' he hb) hi)).trans (h2 e' he hb)⟩
theorem Inv'.least{l:List Oper}{n:Nat}{listed head:Array Bool}(v:Inv' l n listed head)(B:Back l.toArray n)(hn:n≤l.length) :
  (∀i,i < n→head.getD i false=true)∨∃i,i < n∧i ∈ Region.ready .any l.toArray listed:=by
 by_cases h:∃i,i < n∧head.getD i false=false
 ·right
  have least:∀(k i:Nat),i≤k→i < n→head.getD i false=false→∃j,j < n∧head.getD j false=false∧∀m,m < j→head.getD m false=true:=by
   intro k
   induction k with
   | zero=>intro i hk hi hf; exact⟨i,hi,hf,fun m hm=>by omega⟩
   | succ k ih=>
    intro i hk hi hf
    by_cases hm:∃m,m < i∧head.getD m false=false
    ·obtain⟨m,hmi,hmf⟩:=hm
     exact ih m (by omega) (by omega) hmf
    ·refine⟨i,hi,hf,fun m hmi=>?_⟩
     cases hv:head.getD m false with
     | true=>rfl
     | false=>exact absurd ⟨m,hmi,hv⟩ hm
  obtain⟨i,hi,hf⟩:=h
  obtain⟨j,hj,hjf,hall⟩:=least i i (Nat.le_refl _) hi hf
  have ho:l.toArray[j]?=some l[j]:=by simp[Nat.lt_of_lt_of_le hj hn]
  have hl:j < listed.size:=by have:=v.size; omega
  refine⟨j,hj,mem_ready.2 ⟨by rw[getD_tf hl,v.same j hj]; exact hjf,l[j],ho,fun e he hbd=>?_⟩⟩
  have hlt:=B.back j _ ho e he hbd
  rw[v.same e.on (by omega)]
  exact hall e.on hlt
 ·left
  intro i hi
  cases hv:head.getD i false with
  | true=>rfl
  | false=>exact absurd ⟨i,hi,hv⟩ h
theorem Inv'.set{l:List Oper}{n i:Nat}{listed head:Array Bool}(v:Inv' l n listed head)(hi:i < n)(hn:n≤l.length):Inv' l n (listed.setIfInBounds i true) (head.setIfInBounds i true):=by
 refine⟨by simpa using v.size,by simpa using v.hsize,fun j hj=>?_,fun j hj=>?_⟩
 ·by_cases hij:i=j
  ·subst hij
   have h1:=v.size
   have h2:=v.hsize
   simp[show i < listed.size from by omega,show i < head.size from by omega]
  ·have:=v.same j hj
   simp only[Array.getD_eq_getD_getElem?,Array.getElem?_setIfInBounds,if_neg hij] at this ⊢
   exact this
 ·have hij:¬ i=j:=by omega
  have:=v.tail j hj
  simp only[Array.getD_eq_getD_getElem?,Array.getElem?_setIfInBounds,if_neg hij] at this ⊢
  exact this
theorem walk{C:World→Prop}{l:List Oper}{n:Nat}{Q:Exit→Act→World→Prop}(B:Back l.toArray n)(hn:n≤l.length):∀(f:Nat) (listed head:Array Bool) (a:Act) (w:World),Inv' l n listed head→C w→
  wpAnyQ P .any (l.take n).toArray C (fun a'=>∀w',C w'→wpList P l.toArray Q (l.drop n) a' w') f head a→wpAny P .any l.toArray Q (f+(l.length - n)) listed a w:=by
 intro f
 induction f with
 | zero=>
  intro listed head a w v hw h
  rcases v.least B hn with hall | ⟨i,hi,hr⟩
  ·exact seq B (l.drop n) n _ listed a w (Nat.le_refl _) (by simp; omega) (by simp) (fun j=>by simp) (by simpa using v.size) (fun i hi=>(v.same i hi).trans (hall i hi)) v.tail (h.2 w hw)
  ·have:=(v.ready B hn hi).1 hr
   rw[h.1] at this; cases this
 | succ f ih=>
  intro listed head a w v hw h
  rcases v.least B hn with hall | ⟨i,hi,hr⟩
  ·have h0:Region.ready .any (l.take n).toArray head=[]:=by
    cases hc:Region.ready .any (l.take n).toArray head with
    | nil=>rfl
    | cons j r=>
     have hm:j ∈ Region.ready .any (l.take n).toArray head:=by rw[hc]; simp
     obtain⟨hun,o,ho,_⟩:=mem_ready.1 hm
     have hj:j < (l.take n).toArray.size:=(Array.getElem?_eq_some_iff.1 ho).1
     have hjn:j < n:=by simp at hj; omega
     rw[getD_tf (by have:=v.hsize; omega),hall j hjn] at hun
     cases hun
   exact seq B (l.drop n) n _ listed a w (Nat.le_refl _) (by simp; omega) (by simp) (fun j=>by simp) (by simpa using v.size) (fun i hi=>(v.same i hi).trans (hall i hi)) v.tail (h.1 h0 w hw)
  ·rw[show f+1+(l.length - n)=(f+(l.length - n))+1 by omega]
   refine⟨fun h0=>(by rw[h0] at hr; cases hr),fun j hj=>?_⟩
   obtain⟨hun,oj,hoj,hallj⟩:=mem_ready.1 hj
   have hjn:j < n:=by
    rcases Nat.lt_or_ge j n with hlt | hge
    ·exact hlt
    ·obtain⟨e,he,hb,hon⟩:=B.wait j oj hoj hge i (by omega)
     have h1:=hallj e he hb
     obtain⟨hun',_⟩:=mem_ready.1 hr
     rw[getD_tf (by have:=v.size; omega)] at hun'
     rw[hon,hun'] at h1
     cases h1
   have hq:=h.2 j ((v.ready B hn hjn).1 hj)
   have hq':qOp P l.toArray C j (wpAnyQ P .any (l.take n).toArray C (fun a'=>∀w',C w'→wpList P l.toArray Q (l.drop n) a' w') f (head.setIfInBounds j true)) a:=by
    have e:(l.take n).toArray[j]?=l.toArray[j]?:=by simp[hjn]
    unfold qOp at hq ⊢
    rw[e,hoj] at hq
    rw[hoj]
    have hg:=B.free j oj hoj hjn
    simp only[Region.wanted,hg,if_true] at hq ⊢
    exact hq
   exact wpOp_of_qOp hw (fun a' w' hw' h'=>ih _ _ a' w' (v.set hjn hn) hw' h') hq'
def cnt(L:Nat→Bool):Nat→Nat
 | 0=>0
 | n+1=>cnt L n+(if L n then 0 else 1)
theorem cnt_le{L M:Nat→Bool}(h:∀i,L i=true→M i=true):∀n,cnt M n≤cnt L n
 | 0=>Nat.le_refl _
 | n+1=>by
  have ih:=cnt_le h n
  simp only[cnt]
  by_cases hl:L n=true
  ·rw[if_pos hl,if_pos (h n hl)]; omega
  ·rw[if_neg hl]; split <;> omega
theorem cnt_lt{L M:Nat→Bool}(h:∀i,L i=true→M i=true){i:Nat}(hi:L i=false)(hm:M i=true):∀n,i < n→cnt M n+1≤cnt L n
 | 0,hn=>by omega
 | n+1,hn=>by
  simp only[cnt]
  by_cases hin:i=n
  ·subst hin
   have:=cnt_le h i
   rw[if_pos hm,hi,if_neg (by simp)]; omega
  ·have ih:=cnt_lt h hi hm n (by omega)
   by_cases hl:L n=true
   ·rw[if_pos hl,if_pos (h n hl)]; omega
   ·rw[if_neg hl]; split <;> omega
theorem cnt_zero{L:Nat→Bool}:∀n,cnt L n=0→∀i,i < n→L i=true
 | 0,_,i,hi=>by omega
 | n+1,h,i,hi=>by
  simp only[cnt] at h
  by_cases hl:L n=true
  ·rw[if_pos hl] at h
   by_cases hin:i=n
   ·subst hin; exact hl
   ·exact cnt_zero n (by omega) i (by omega)
  ·rw[if_neg hl] at h; omega
theorem cnt_all:∀n,cnt (fun _=>false) n=n
 | 0=>rfl
 | n+1=>by simp only[cnt]; rw[cnt_all n]; simp
theorem walkInv{l:List Oper}{n:Nat}{Q:Exit→Act→World→Prop}{Inv:(Nat→Bool)→Act→World→Prop}(B:Back l.toArray n)(hn:n≤l.length)
  (hstep:∀(i:Nat) (o:Oper),i < n→l[i]?=some o→∀(L:Nat→Bool) (a:Act) (w:World),Inv L a w→L i=false→(∀j,(o.after.any fun e=>Region.binds .any e && e.on == j)=true→L j=true)→
   o.wp P a w (fun a' w'=>Inv (fun j=>j == i || L j) a' w') Q)
  (hend:∀(L:Nat→Bool) (a:Act) (w:World),(∀i,i < n→L i=true)→Inv L a w→wpList P l.toArray Q (l.drop n) a w) :
  ∀(f:Nat) (listed:Array Bool) (a:Act) (w:World),listed.size=l.length→(∀i,n≤i→listed.getD i false=false)→cnt (fun i=>listed.getD i false) n≤f→Inv (fun i=>listed.getD i false) a w→
   wpAny P .any l.toArray Q (f+(l.length - n)) listed a w:=by
 intro f
 induction f with
 | zero=>
  intro listed a w hs ht hc h
  have hall:=cnt_zero n (Nat.le_zero.1 hc)
  exact seq B (l.drop n) n _ listed a w (Nat.le_refl _) (by simp; omega) (by simp) (fun j=>by simp) (by simpa using hs) hall ht (hend _ a w hall h)
 | succ f ih=>
  intro listed a w hs ht hc h
  have V:Inv' l n listed (listed.extract 0 n):=⟨hs,by simp; omega,fun i hi=>by simp only[Array.getD_eq_getD_getElem?,Array.getElem?_extract]; rw[if_pos (by omega)]; simp,ht⟩
  rcases V.least B hn with hall | ⟨i,hi,hr⟩
  ·have hall':∀i,i < n→listed.getD i false=true:=fun i hi=>(V.same i hi).trans (hall i hi)
   exact seq B (l.drop n) n _ listed a w (Nat.le_refl _) (by simp; omega) (by simp) (fun j=>by simp) (by simpa using hs) hall' ht (hend _ a w hall' h)
  ·rw[show f+1+(l.length - n)=(f+(l.length - n))+1 by omega]
   refine⟨fun h0=>(by rw[h0] at hr; cases hr),fun j hj=>?_⟩
   obtain⟨hun,oj,hoj,hallj⟩:=mem_ready.1 hj
   have hjl:j < l.length:=by have:=(Array.getElem?_eq_some_iff.1 hoj).1; simpa using this
   have hunf:listed.getD j false=false:=by rw[getD_tf (by omega)] at hun; exact hun
   have hjn:j < n:=by
    rcases Nat.lt_or_ge j n with hlt | hge
    ·exact hlt
    ·obtain⟨e,he,hb,hon⟩:=B.wait j oj hoj hge i (by omega)
     have h1:=hallj e he hb
     obtain⟨hun',_⟩:=mem_ready.1 hr
     rw[getD_tf (by omega)] at hun'
     rw[hon,hun'] at h1
     cases h1
   have hg:=B.free j oj hoj hjn
   have hw:=hstep j oj hjn (by simpa using hoj) (fun i=>listed.getD i false) a w h hunf (fun j hj=>by
    obtain⟨e,he,hb⟩:=Array.any_eq_true'.1 hj
    simp only[Bool.and_eq_true,beq_iff_eq] at hb
    exact hb.2 ▸ hallj e he hb.1)
   unfold wpOp
   simp only[hoj,Region.wanted,hg,if_true]
   left
   refine Oper.wp_mono (fun a' w' h'=>?_) hw
   have hset:∀k,(listed.setIfInBounds j true).getD k false=(k == j || listed.getD k false):=fun k=>by
    by_cases hk:j=k
    ·subst hk; simp[show j < listed.size by omega]
    ·have hk':(k == j)=false:=by simp; omega
     simp only[Array.getD_eq_getD_getElem?,Array.getElem?_setIfInBounds,if_neg hk,hk',Bool.false_or]
   refine ih _ a' w' (by simpa using hs) (fun k hk=>?_) ?_ (by rw[funext hset]; exact h')
   ·rw[hset k,ht k hk]; simp; omega
   ·have:=cnt_lt (L:=fun i=>listed.getD i false) (M:=fun i=>(listed.setIfInBounds j true).getD i false) (fun k hk=>by rw[hset k,hk]; simp) hunf (by rw[hset j]; simp) n hjn
    omega
theorem regionInv{id n:Nat}{l:List Oper}{Q:Exit→Act→World→Prop}{a:Act}{w:World}{Inv:(Nat→Bool)→Act→World→Prop}(hm:P.follows .mixedOrders=true)(hn:n≤l.length)(hB:backB l.toArray n=true)
  (hstart:Inv (fun _=>false) a { w with drawn:=w.drawn+1 })
  (hstep:∀(i:Nat) (o:Oper),i < n→l[i]?=some o→∀(L:Nat→Bool) (a:Act) (w:World),Inv L a w→L i=false→(∀j,(o.after.any fun e=>Region.binds .any e && e.on == j)=true→L j=true)→
   o.wp P a w (fun a' w'=>Inv (fun j=>j == i || L j) a' w') Q)
  (hend:∀(L:Nat→Bool) (a:Act) (w:World),(∀i,i < n→L i=true)→Inv L a w→wpList P l.toArray Q (l.drop n) a w):(Code.region id l.toArray true).wp P Q a w:=by
 have B:=back_of hB
 refine wp_region_any hm ?_
 have e:(fun i=>(Array.replicate l.toArray.size false).getD i false)=fun _=>false:=by
  funext i; exact getD_replicate_false' _ _
 have R:=walkInv (Q:=Q) B hn hstep hend n (Array.replicate l.toArray.size false) a { w with drawn:=w.drawn+1 } (by simp) (fun i _=>getD_replicate_false' _ _) (by rw[e,cnt_all]; exact Nat.le_refl _) (by rw[e]; exact hstart)
 rw[show n+(l.length - n)=l.toArray.size by simp; omega] at R
 exact R
end QuietTail2
namespace Sp
open Go.RowKit Dk Eqb Byt
theorem R2.cj{w:World}{g:Nat}{x y:Int}(h:R2 w g x y){j:Nat}(hj:j < 2):w.cell? ⟨g,j,none⟩=some (.int .i64 (if j=0 then x else y)):=by
 obtain rfl | rfl:j=0∨j=1:=by omega
 ·exact h.c0
 ·exact h.c1
structure TkR(w1:World)(bk:Nat)(p0 p1:Int)(base:Nat)(L:Nat→Nat)(j:Nat)(v:Value)(wr:World):Prop where
 be:Below w1.heap.size w1 wr
 ar:R2 wr bk p0 p1
 ow:OwnI wr base v ((List.range j).map fun i=>(L i:Int))
 lt:base≤wr.heap.size
theorem TkR.next{w1 wr w2 w3:World}{bk base j:Nat}{p0 p1:Int}{L:Nat→Nat}{v v':Value}{o:Obj}(h:TkR w1 bk p0 p1 base L j v wr)(hbb:bk < base)(h1:w1.heap.size≤base)(hb:Below wr.heap.size wr w2)(hown:OwnI w3 base v' ((List.range (j+1)).map fun i=>(L i:Int)))(hg:(w2.alloc o).grownBy w3 v.ownBlock):TkR w1 bk p0 p1 base L (j+1) v' w3:=by
 have hBA:Below wr.heap.size wr (w2.alloc o):=hb.alloc hb.size _
 have hk:∀k,v.ownBlock=some k→base≤k:=fun k hk=>(World.ownsRow.lt h.ow k hk).1
 have hs:=h.ar.lt
 refine⟨?_,h.ar.block ?_,hown,?_⟩
 ·exact(h.be.trans (hBA.mono h.be.size)).grown hg (by have:=hBA.size; have:=h.be.size; omega) fun k hk'=>by have:=hk k hk'; omega
 ·refine(hg.block bk (by have:=hBA.size; omega) fun e=>?_).trans (hBA.block bk hs)
  have:=hk bk e.symm
  omega
 ·have:=hg.size
  have:=hBA.size
  have:=h.lt
  omega
theorem tk_no{A B:Int}{z n c:Nat}{f:Nat→Int}(hp:formB A B z n f=true)(hc:c=1∨c=2)(h:tpOk A B z f c=false):tkp A B z n f c=0∧tkq A B z n f c=0∧tkE A B z n f c=9∧tkF A B z n f c=f:=by
 have hb:tkB A B z n f c=true:=by
  unfold tkB
  rw[hp]
  rcases hc with rfl | rfl <;> rfl
 unfold tkp tkq tkE tkF
 rw[hb,Int.toNat_natCast,Int.toNat_natCast,h]
 exact⟨rfl,rfl,rfl,rfl⟩
theorem tk_yes{A B:Int}{z n c:Nat}{f:Nat→Int}(hp:formB A B z n f=true)(hc:c=1∨c=2)(h:tpOk A B z f c=true):tkp A B z n f c=tp0 A B z f c∧tkq A B z n f c=tp1 B z f c∧tkE A B z n f c=0∧tkF A B z n f c=bec (nx 2 0 0 0 0) (tpL A B z f c) f c:=by
 have hb:tkB A B z n f c=true:=by
  unfold tkB
  rw[hp]
  rcases hc with rfl | rfl <;> rfl
 unfold tkp tkq tkE tkF
 rw[hb,Int.toNat_natCast,Int.toNat_natCast,h]
 exact⟨rfl,rfl,rfl,rfl⟩
theorem tk_bad{A B Z x:Int}{n:Nat}{f:Nat→Int}(h:tkB A B Z n f x=false):tkp A B Z n f x=0∧tkq A B Z n f x=0∧tkE A B Z n f x=1∧tkF A B Z n f x=f:=by
 unfold tkp tkq tkE tkF
 rw[h]
 exact⟨rfl,rfl,rfl,rfl⟩
def TkInv(x2 x3 x4 x5 x6 x8 x9 x10 x11 x12 x13 x14 x15 x16 x17 x18 x19 x20 x21 x22 x23 x33 x34 x35 x36 x37 x38 x39 x40 x41 x42 x43 x44 x45 x46 x47 x48 x49 x50 x51 x52 x53 x54 x55 x56 x57 x58 x59 x60 x61 x62 x63 x64 x65 x66 x67 x68 x69 x70 x71:Value)(g:Pl)(A B fa fb x:Int)(z b off n cap:Nat)(w0:World)(L:Nat→Bool)(a':Act)(w':World):Prop:=
 ∃u0 u1 u2 u3 u4 u5 u6 u7 u8 u9,a'={ tmps:=#[.pointer (some ⟨g.b,g.o,none⟩),.int .i64 x,x2,x3,x4,x5,x6,u9,x8,x9,x10,x11,x12,x13,x14,x15,x16,x17,x18,x19,x20,x21,x22,x23,u0,u1,u2,u3,u4,u5,u6,u7,u8,x33,x34,x35,x36,x37,x38,x39,x40,x41,x42,x43,x44,x45,x46,x47,x48,x49,x50,x51,x52,x53,x54,x55,x56,x57,x58,x59,x60,x61,x62,x63,x64,x65,x66,x67,x68,x69,x70,x71],defers:=[] }∧(L 0=true→u0=.pointer (some ⟨g.b,g.o,none⟩))∧(L 1=true→u1=.pointer (some ⟨g.b,g.o,none⟩))∧(L 2=true→u2=.agg #[.int .i64 A,.int .i64 B,.int .i64 z,.slice (some ⟨b,off,none⟩) n cap])∧(L 3=true→u3=.int .i64 fa)∧(L 4=true→u4=.pointer (some ⟨g.b,g.o,none⟩))∧(L 5=true→u5=.pointer (some ⟨g.b,g.o,none⟩))∧(L 6=true→u6=.agg #[.int .i64 A,.int .i64 B,.int .i64 z,.slice (some ⟨b,off,none⟩) n cap])∧(L 7=true→u7=.int .i64 fb)∧(L 8=true→u8=.agg #[.int .i64 fa,.int .i64 fb])∧(L 9=true→∃bk,u9=.pointer (some ⟨bk,0,none⟩)∧w0.heap.size≤bk∧w'.heap[bk]?=some (.cells #[.int .i64 0,.int .i64 0] 38 (0,0)))∧Below w0.heap.size w0 w'
theorem tA{L:Nat→Bool}{i:Nat}{P:Nat→Prop}{u:Value}(h:L 9=true→∃bk,u=.pointer (some ⟨bk,0,none⟩)∧P bk)(h1:(9 == i)=false):(9 == i || L 9)=true→∃bk,u=.pointer (some ⟨bk,0,none⟩)∧P bk:=by
 rw[h1,Bool.false_or]
 exact h
theorem tK{L:Nat→Bool}{i k:Nat}{Q:Prop}(h:L k=true→Q)(h1:(k == i)=false):(k == i || L k)=true→Q:=by
 rw[h1,Bool.false_or]
 exact h
section
attribute [local go_sem] zvS2
theorem Take_any(g:Pl)(A B Z x:Int)(ao:Option Addr)(n cap:Nat)(f:Nat→Int)(w:World)(hx:Bs w g A B Z ao n cap)(hB:i64 B)(hs:St w w.heap.size ao n cap f) :
  Calls Tryz.prog 113 #[.pointer (some ⟨g.b,g.o,none⟩),.int .i64 x] w fun e w'=>e=.returned (.tuple #[.int .i64 (tkp A B Z n f x),.int .i64 (tkq A B Z n f x),.int .i64 (tkE A B Z n f x)])∧Turn w g A B Z n (tkF A B Z n f x) w':=by
 have HF:=Lib.hid (formed_any g A B Z ao n cap f w hx hB hs)
 cases hp:formB A B Z n f with
 | false=>
  rw[hp] at HF
  have HV:=Lib.hid (tk_bad (x:=x) (show tkB A B Z n f x=false by unfold tkB; rw[hp]; rfl))
  clear hp
  go_enter Tryz.func113,Tryz.ntmps113
  go_wp2_with fail
  refine HF.out.mono ?_
  rintro _ w1 ⟨rfl,hb1⟩
  dsimp only
  go_wp2_with fail
  go_ret3
  exact⟨by rw[HV.out.1,HV.out.2.1,HV.out.2.2.1]; rfl,by rw[HV.out.2.2.2]; exact Turn.same hx hs hb1⟩
 | true=>
  rw[hp] at HF
  by_cases h1:x < 1
  ·have HV:=Lib.hid (tk_bad (x:=x) (show tkB A B Z n f x=false by unfold tkB; rw[hp,show(x == 1)=false from beq_eq_false_iff_ne.2 (by omega),show(x == 2)=false from beq_eq_false_iff_ne.2 (by omega)]; rfl))
   clear hp
   go_enter Tryz.func113,Tryz.ntmps113
   go_wp2_with fail
   refine HF.out.mono ?_
   rintro _ w1 ⟨rfl,hb1⟩
   dsimp only
   go_wp2_with fail
   go_ret3
   exact⟨by rw[HV.out.1,HV.out.2.1,HV.out.2.2.1]; rfl,by rw[HV.out.2.2.2]; exact Turn.same hx hs hb1⟩
  by_cases h2:2 < x
  ·have HV:=Lib.hid (tk_bad (x:=x) (show tkB A B Z n f x=false by unfold tkB; rw[hp,show(x == 1)=false from beq_eq_false_iff_ne.2 (by omega),show(x == 2)=false from beq_eq_false_iff_ne.2 (by omega)]; rfl))
   clear hp
   go_enter Tryz.func113,Tryz.ntmps113
   go_wp2_with fail
   refine HF.out.mono ?_
   rintro _ w1 ⟨rfl,hb1⟩
   dsimp only
   go_wp2_with fail
   go_ret3
   exact⟨by rw[HV.out.1,HV.out.2.1,HV.out.2.2.1]; rfl,by rw[HV.out.2.2.2]; exact Turn.same hx hs hb1⟩
  obtain⟨z,rfl⟩:∃z:Nat,Z=z:=⟨Z.toNat,by have:=(ap_of hp).z1; omega⟩
  have hn2:n=2 * z:=by have:=n_of hp; omega
  obtain⟨b,off,rfl,_⟩:=bytes_tab hs.lies (pos_of hp)
  obtain rfl | rfl:x=1∨x=2:=by omega
  ·clear h1 h2
   have HAp:=Lib.hid (ap_of hp)
   have HN2:=Lib.hid hn2
   have HBD:=Lib.hid (bd_of hp hs.byte)
   have HEno:Hid (tpOk A B z f 1=false→tkp A B z n f 1=0∧tkq A B z n f 1=0∧tkE A B z n f 1=9∧tkF A B z n f 1=f):=Lib.hid fun h=>tk_no (c:=1) hp (by omega) h
   have HEyes:Hid (tpOk A B z f 1=true→tkp A B z n f 1=tp0 A B z f 1∧tkq A B z n f 1=tp1 B z f 1∧tkE A B z n f 1=0∧tkF A B z n f 1=bec (nx 2 0 0 0 0) (tpL A B z f 1) f 1):=Lib.hid fun h=>tk_yes (c:=1) hp (by omega) h
   clear hp hn2
   go_enter Tryz.func113,Tryz.ntmps113
   go_wp2_with fail
   refine HF.out.mono ?_
   rintro _ w1 ⟨rfl,hb1⟩
   dsimp only
   have HB1:=Lib.hid hb1
   have HX:=Lib.hid (fun w' (hw':Below w1.heap.size w1 w')=>(hx.below hb1 hx.lt).below hw' (by have:=hx.lt; have:=hb1.size; omega))
   have HST:=Lib.hid (hs.later hb1)
   obtain⟨_,_,e1',hbb,hnc,hcc⟩:=bytes_tab HST.out.lies (by have:=HN2.out; have:=HAp.out.z1; omega)
   injection e1' with e1'
   injection e1' with e1' e2'
   subst e1' e2'
   have HFA:=Lib.hid (fun w' (hw':Below w1.heap.size w1 w')=>firstFree0_any A B z b off n cap f w' (by have:=HAp.out.z1; omega) (by have:=HAp.out.z2; omega) HN2.out hnc (by have:=HAp.out; have:=this.a0; have:=HAp.out.ab; have:=HAp.out.b1; omega) (by have:=HAp.out; have:=this.a0; have:=HAp.out.ab; have:=HAp.out.b1; omega) (by have:=hw'.size; omega) (fun i hi=>(hw'.cell (p:=⟨b,off+i,none⟩) hbb).trans (hcc i hi)))
   have HFB:=Lib.hid (fun w' (hw':Below w1.heap.size w1 w')=>firstFree1_any A B z b off n cap f w' (by have:=HAp.out.z1; omega) (by have:=HAp.out.z2; omega) HN2.out hnc (by have:=HAp.out; have:=this.a0; have:=HAp.out.ab; have:=HAp.out.b1; omega) (by have:=HAp.out; have:=this.a0; have:=HAp.out.ab; have:=HAp.out.b1; omega) (by have:=hw'.size; omega) (fun i hi=>(hw'.cell (p:=⟨b,off+i,none⟩) hbb).trans (hcc i hi)))
   rw[show ff A f z=fA A z f from rfl] at HFA
   rw[show ff B (fun i=>f (z+i)) z=fB B z f from rfl] at HFB
   obtain⟨fa,hfa⟩:∃fa,fa=fA A z f:=⟨_,rfl⟩
   obtain⟨fb,hfb⟩:∃fb,fb=fB B z f:=⟨_,rfl⟩
   rw[←hfa] at HFA
   rw[←hfb] at HFB
   have HFa:=Lib.hid hfa
   have HFb:=Lib.hid hfb
   clear hfa hfb hcc hb1
   go_wp2_with fail
   refine QuietTail2.regionInv (n:=10) (Inv:=TkInv _ _ _ _ _ _ _ _ _ _ _ _ _ _ _ _ _ _ _ _ _ _ _ _ _ _ _ _ _ _ _ _ _ _ _ _ _ _ _ _ _ _ _ _ _ _ _ _ _ _ _ _ _ _ _ _ _ _ _ _ g A B fa fb 1 z b off n cap w1) (by kernel_rfl) (by decide) (by kernel_rfl) ⟨_,_,_,_,_,_,_,_,_,_,rfl,by simp,by simp,by simp,by simp,by simp,by simp,by simp,by simp,by simp,by simp,⟨rfl,rfl,rfl,Nat.le_refl _,fun _ _=>rfl⟩⟩ ?step ?fin
   case step=>
    rintro i o hi ho L a' w' ⟨u0,u1,u2,u3,u4,u5,u6,u7,u8,u9,rfl,i0,i1,i2,i3,i4,i5,i6,i7,i8,ia,iB⟩ hL hpre
    match i,hi with
    | 0,_=>
     simp at ho
     subst ho
     go_simp
     exact⟨_,u1,u2,u3,u4,u5,u6,u7,u8,u9,rfl,fun _=>rfl,tK i1 rfl,tK i2 rfl,tK i3 rfl,tK i4 rfl,tK i5 rfl,tK i6 rfl,tK i7 rfl,tK i8 rfl,tA ia rfl,iB⟩
    | 1,_=>
     simp at ho
     subst ho
     obtain rfl:=i0 (hpre 0 (by kernel_rfl))
     go_simp
     exact⟨_,_,u2,u3,u4,u5,u6,u7,u8,u9,rfl,tK i0 rfl,fun _=>rfl,tK i2 rfl,tK i3 rfl,tK i4 rfl,tK i5 rfl,tK i6 rfl,tK i7 rfl,tK i8 rfl,tA ia rfl,iB⟩
    | 2,_=>
     simp at ho
     subst ho
     obtain rfl:=i1 (hpre 1 (by kernel_rfl))
     have k0:=(HX.out w' iB).c0; have k1:=(HX.out w' iB).c1; have k2:=(HX.out w' iB).c2; have k3:=(HX.out w' iB).c3
     go_simp
     exact⟨u0,_,_,u3,u4,u5,u6,u7,u8,u9,rfl,tK i0 rfl,tK i1 rfl,fun _=>rfl,tK i3 rfl,tK i4 rfl,tK i5 rfl,tK i6 rfl,tK i7 rfl,tK i8 rfl,tA ia rfl,iB⟩
    | 3,_=>
     simp at ho
     subst ho
     obtain rfl:=i2 (hpre 2 (by kernel_rfl))
     go_simp
     refine(HFA.out w' iB).mono ?_
     rintro _ w'' ⟨rfl,hbp⟩
     exact⟨u0,u1,_,_,u4,u5,u6,u7,u8,u9,rfl,tK i0 rfl,tK i1 rfl,tK i2 rfl,fun _=>rfl,tK i4 rfl,tK i5 rfl,tK i6 rfl,tK i7 rfl,tK i8 rfl,tA (fun hl=>by obtain⟨bk,e1,e2,e3⟩:=ia hl; exact⟨bk,e1,e2,(hbp.block bk (Array.getElem?_eq_some_iff.1 e3).1).trans e3⟩) rfl,iB.trans (hbp.mono iB.size)⟩
    | 4,_=>
     simp at ho
     subst ho
     go_simp
     exact⟨u0,u1,u2,u3,_,u5,u6,u7,u8,u9,rfl,tK i0 rfl,tK i1 rfl,tK i2 rfl,tK i3 rfl,fun _=>rfl,tK i5 rfl,tK i6 rfl,tK i7 rfl,tK i8 rfl,tA ia rfl,iB⟩
    | 5,_=>
     simp at ho
     subst ho
     obtain rfl:=i4 (hpre 4 (by kernel_rfl))
     go_simp
     exact⟨u0,u1,u2,u3,_,_,u6,u7,u8,u9,rfl,tK i0 rfl,tK i1 rfl,tK i2 rfl,tK i3 rfl,tK i4 rfl,fun _=>rfl,tK i6 rfl,tK i7 rfl,tK i8 rfl,tA ia rfl,iB⟩
    | 6,_=>
     simp at ho
     subst ho
     obtain rfl:=i5 (hpre 5 (by kernel_rfl))
     have k0:=(HX.out w' iB).c0; have k1:=(HX.out w' iB).c1; have k2:=(HX.out w' iB).c2; have k3:=(HX.out w' iB).c3
     go_simp
     exact⟨u0,u1,u2,u3,u4,_,_,u7,u8,u9,rfl,tK i0 rfl,tK i1 rfl,tK i2 rfl,tK i3 rfl,tK i4 rfl,tK i5 rfl,fun _=>rfl,tK i7 rfl,tK i8 rfl,tA ia rfl,iB⟩
    | 7,_=>
     simp at ho
     subst ho
     obtain rfl:=i6 (hpre 6 (by kernel_rfl))
     go_simp
     refine(HFB.out w' iB).mono ?_
     rintro _ w'' ⟨rfl,hbp⟩
     exact⟨u0,u1,u2,u3,u4,u5,_,_,u8,u9,rfl,tK i0 rfl,tK i1 rfl,tK i2 rfl,tK i3 rfl,tK i4 rfl,tK i5 rfl,tK i6 rfl,fun _=>rfl,tK i8 rfl,tA (fun hl=>by obtain⟨bk,e1,e2,e3⟩:=ia hl; exact⟨bk,e1,e2,(hbp.block bk (Array.getElem?_eq_some_iff.1 e3).1).trans e3⟩) rfl,iB.trans (hbp.mono iB.size)⟩
    | 8,_=>
     simp at ho
     subst ho
     obtain rfl:=i3 (hpre 3 (by kernel_rfl))
     obtain rfl:=i7 (hpre 7 (by kernel_rfl))
     go_simp
     exact⟨u0,u1,u2,_,u4,u5,u6,_,_,u9,rfl,tK i0 rfl,tK i1 rfl,tK i2 rfl,tK i3 rfl,tK i4 rfl,tK i5 rfl,tK i6 rfl,tK i7 rfl,fun _=>rfl,tA ia rfl,iB⟩
    | 9,_=>
     simp at ho
     subst ho
     have hn:=heap_alloc_new w' (.cells #[.int .i64 0,.int .i64 0] 38)
     go_simp
     exact⟨u0,u1,u2,u3,u4,u5,u6,u7,u8,_,rfl,tK i0 rfl,tK i1 rfl,tK i2 rfl,tK i3 rfl,tK i4 rfl,tK i5 rfl,tK i6 rfl,tK i7 rfl,tK i8 rfl,fun _=>⟨_,rfl,iB.size,hn⟩,iB.alloc iB.size _⟩
    | i+10,h=>omega
   case fin=>
    rintro L a' w5 hall ⟨u0,u1,u2,u3,u4,u5,u6,u7,u8,u9,rfl,i0,i1,i2,i3,i4,i5,i6,i7,i8,ia,iB⟩
    obtain rfl:=i0 (hall 0 (by omega))
    obtain rfl:=i1 (hall 1 (by omega))
    obtain rfl:=i2 (hall 2 (by omega))
    obtain rfl:=i3 (hall 3 (by omega))
    obtain rfl:=i4 (hall 4 (by omega))
    obtain rfl:=i5 (hall 5 (by omega))
    obtain rfl:=i6 (hall 6 (by omega))
    obtain rfl:=i7 (hall 7 (by omega))
    obtain rfl:=i8 (hall 8 (by omega))
    obtain⟨bk,rfl,hbk,hbz⟩:=ia (hall 9 (by omega))
    clear i0 i1 i2 i3 i4 i5 i6 i7 i8 ia hall
    simp only[List.drop_succ_cons,List.drop_zero]
    have ar5:R2 w5 bk 0 0:=hbz
    have l0:=ar5.c0
    have l1:=ar5.c1
    have lf0:=ar5.fr 0
    have lf1:=ar5.fr 1
    clear hbz
    cases ha:fa == -1 with
    | true=>
     have HR6:Hid (R2 (((((w5.setCell ⟨bk,0,none⟩ (.int .i64 fa)).setCell ⟨bk,1,none⟩ (.int .i64 fb))).setCell ⟨bk,0,none⟩ (.int .i64 fb)).setCell ⟨bk,1,none⟩ (.int .i64 (-1))) bk (tp0 A B z f 1) (tp1 B z f 1)):=Lib.hid (by
      rw[show tp0 A B z f 1=fb by unfold tp0; rw[if_pos rfl,if_pos (by rw[←HFa.out]; simpa using ha),←HFb.out],show tp1 B z f 1 = -1 from rfl]
      exact(((ar5.s0 fa).s1 fb).s0 fb).s1 (-1))
     have HB6:Hid (Below w1.heap.size w1 (((((w5.setCell ⟨bk,0,none⟩ (.int .i64 fa)).setCell ⟨bk,1,none⟩ (.int .i64 fb))).setCell ⟨bk,0,none⟩ (.int .i64 fb)).setCell ⟨bk,1,none⟩ (.int .i64 (-1)))):=Lib.hid ((((iB.setCell hbk _).setCell hbk _).setCell hbk _).setCell hbk _)
     clear ar5 iB HFA HFB HFa HFb HF
     go_wp2_with fail
     generalize ((((w5.setCell ⟨bk,0,none⟩ (.int .i64 fa)).setCell ⟨bk,1,none⟩ (.int .i64 fb))).setCell ⟨bk,0,none⟩ (.int .i64 fb)).setCell ⟨bk,1,none⟩ (.int .i64 (-1))=w6 at HR6 HB6 ⊢
     clear l0 l1 lf0 lf1
     have HBB:Hid (bk < w6.heap.size∧w1.heap.size≤w6.heap.size):=Lib.hid ⟨HR6.out.lt,HB6.out.size⟩
     go_wp2_with fail
     go_loopw [8,45] (fun t i wr=>∃j:Nat,j≤1∧i=.int .i64 j∧Hid (TkR w1 bk (tp0 A B z f 1) (tp1 B z f 1) w6.heap.size (tpL A B z f 1) j t wr∧∀i,i < j→tpP A B z f 1 i≠-1)) (fun _ i _=>1 - (intOf i).toNat)
     case atStart=>exact⟨0,by omega,rfl,Lib.hid ⟨⟨HB6.out,HR6.out,OwnI.nil _ _,Nat.le_refl _⟩,fun i hi=>by omega⟩⟩
     case round=>
      rename_i u8 _
      obtain⟨j,hj,rfl,hR⟩:=hrel
      have hY:=hR.out.1.be
      by_cases hlt:j < 1
      ·have hcj:=hR.out.1.ar.cj (j:=j) (by omega)
       rw[show(if j=0 then tp0 A B z f 1 else tp1 B z f 1)=tpP A B z f 1 j from rfl] at hcj
       have hpd:=tpP_bd (f:=f) (c:=1) HAp.out j
       have hj0:(0:Int)≤(j:Int):=by omega
       have hjc:(j:Int) < 1:=by omega
       have e0:=(HX.out wr hY).c0
       have e1:=(HX.out wr hY).c1
       have e2:=(HX.out wr hY).c2
       have e3:=(HX.out wr hY).c3
       have HPL:=Lib.hid (fun(h:tpP A B z f 1 j≠-1)=>tpL_at HAp.out (by omega) hlt h)
       have HNO:=Lib.hid (fun(h:tpP A B z f 1 j = -1)=>tpOk_no hlt (by omega) h)
       have HPC:=Lib.hid (fun w'=>place_any A B z (tpP A B z f 1 j) (some ⟨b,off,none⟩) n cap w' (by unfold i64; omega) HAp.out)
       have HV:Hid (tpP A B z f 1 j≠-1→∀i,i < j+1→tpP A B z f 1 i≠-1):=Lib.hid fun h i hi=>by
        by_cases e:i=j
        ·subst e; exact h
        ·exact hR.out.2 i (by omega)
       generalize tpP A B z f 1 j=y at hcj hpd HPL HNO HPC HV
       cases hy:y == -1 with
       | true=>
        have HO:=Lib.hid (HEno.out (HNO.out (by simpa using hy)))
        have HB:=Lib.hid (HB1.out.trans (hY.mono HB1.out.size))
        clear HPL HNO HPC HV hR
        go_wp2_with fail
        go_ret3
        exact⟨by rw[HO.out.1,HO.out.2.1,HO.out.2.2.1]; rfl,by rw[HO.out.2.2.2]; exact Turn.same hx hs HB.out⟩
       | false=>
        have hyn:y≠-1:=by simpa using hy
        have HV':=Lib.hid (HV.out hyn)
        obtain⟨hpl,hln,_⟩:=HPL.out hyn
        rw[hpl,show clip ((tpL A B z f 1 j:Nat):Int)=(tpL A B z f 1 j:Nat) from if_pos (by omega),decide_eq_true (by omega)] at HPC
        clear HPL HNO hpl hyn HV
        have HLj:Hid ((List.range j).map (fun i=>(tpL A B z f 1 i:Int)) ++ [(tpL A B z f 1 j:Int)]=(List.range (j+1)).map (fun i=>(tpL A B z f 1 i:Int))):=Lib.hid (by simp[List.range_succ])
        have HRR:=Lib.hid hR.out.1
        clear hR
        generalize tpL A B z f 1 j=l at HPC hln HLj
        go_wp2_with fail
        refine(HPC.out wr).mono ?_
        rintro _ w2 ⟨rfl,hb2⟩
        dsimp only
        have HB2:=Lib.hid hb2
        clear hb2 e0 e1 e2 e3 hcj
        go_wp2_with (at_builtin; refine append_i1 rfl (.tmp 59) (.tmp 61) rfl w6.heap.size u8 _ rfl ((HRR.out.ow.below HB2.out).below ((Below.refl _ _).alloc (Nat.le_refl _) _)) w2.heap.size 1 (l:Int) rfl (World.cell?_alloc_new _ _ _ 0) (by simp; omega) (by have:=HRR.out.lt; have:=HB2.out.size; simp; omega) ?_; intro v' w3 hown hg; rw[HLj.out] at hown; have HN:=Lib.hid (HRR.out.next HBB.out.1 HBB.out.2 HB2.out hown hg); clear hown hg)
        go_roundw
        case rel=>exact⟨j+1,by omega,by go_num,Lib.hid ⟨HN.out,HV'.out⟩⟩
        case measure=>simp[intOf]; omega
      ·obtain rfl:j=1:=by omega
       have HO:=Lib.hid (HEyes.out (tpOk_all (by omega) hR.out.2))
       have HRR:=Lib.hid hR.out.1
       obtain⟨b8,c8,hu8,hb8,hb8l,hc8⟩:=hR.out.1.ow.slice.resolve_left (by rintro⟨_,h⟩; simp at h)
       rw[show((List.range 1).map fun i=>(tpL A B z f 1 i:Int)).length=1 by simp] at hu8 hc8
       have hgw:=hx.lt
       have hw61:=HRR.out.lt
       have HBE:=Lib.hid (become_any g A B z (some ⟨b,off,none⟩) n cap f 2 0 0 0 0 (some ⟨b8,0,none⟩) 1 c8 (tpL A B z f 1) wr (HX.out wr hY) ((HST.out).later hY) (by have:=HN2.out; have:=HAp.out.z1; omega) HBD.out (nx_bd (by omega)) (by omega)
        (fun i hi=>by have:=(tpL_at HAp.out (by omega) hi (hR.out.2 i hi)).2.1; have:=HN2.out; omega)
        (.inr ⟨b8,0,rfl,hb8l,by have:=HB1.out.size; have:=HB6.out.size; omega,fun i hi=>by rw[Nat.zero_add,hc8 i hi,show((List.range 1).map fun i=>(tpL A B z f 1 i:Int)).getD i 0=(tpL A B z f 1 i:Int) from tab_getD _ (fun i=>(tpL A B z f 1 i:Int)) hi]⟩))
       subst hu8
       clear hc8 hR
       have r0:=HRR.out.ar.c0
       have r1:=HRR.out.ar.c1
       go_wp2_with fail
       refine HBE.out.mono ?_
       rintro _ w8 ⟨⟨v8,rfl⟩,hT⟩
       dsimp only
       have HT:=Lib.hid hT
       have ar8:=HRR.out.ar.block (hT.only.block bk HRR.out.ar.lt (by have:=HB1.out.size; simp; omega))
       have q0:=ar8.c0
       have q1:=ar8.c1
       clear hT r0 r1
       go_wp2_with fail
       go_quiet (fail)
       go_wp2_with fail
       go_ret3
       exact⟨by rw[HO.out.1,HO.out.2.1,HO.out.2.2.1]; rfl,by rw[HO.out.2.2.2]; exact((HT.out.after hY).after HB1.out).drop (below_drewN (Below.refl _ _) _)⟩
    | false=>
     have HR6:Hid (R2 ((((w5.setCell ⟨bk,0,none⟩ (.int .i64 fa)).setCell ⟨bk,1,none⟩ (.int .i64 fb))).setCell ⟨bk,1,none⟩ (.int .i64 (-1))) bk (tp0 A B z f 1) (tp1 B z f 1)):=Lib.hid (by
      rw[show tp0 A B z f 1=fa by unfold tp0; rw[if_pos rfl,if_neg (by rw[←HFa.out]; simpa using ha),←HFa.out],show tp1 B z f 1 = -1 from rfl]
      exact((ar5.s0 fa).s1 fb).s1 (-1))
     have HB6:Hid (Below w1.heap.size w1 ((((w5.setCell ⟨bk,0,none⟩ (.int .i64 fa)).setCell ⟨bk,1,none⟩ (.int .i64 fb))).setCell ⟨bk,1,none⟩ (.int .i64 (-1)))):=Lib.hid (((iB.setCell hbk _).setCell hbk _).setCell hbk _)
     clear ar5 iB HFA HFB HFa HFb HF
     go_wp2_with fail
     generalize (((w5.setCell ⟨bk,0,none⟩ (.int .i64 fa)).setCell ⟨bk,1,none⟩ (.int .i64 fb))).setCell ⟨bk,1,none⟩ (.int .i64 (-1))=w6 at HR6 HB6 ⊢
     clear l0 l1 lf0 lf1
     have HBB:Hid (bk < w6.heap.size∧w1.heap.size≤w6.heap.size):=Lib.hid ⟨HR6.out.lt,HB6.out.size⟩
     go_wp2_with fail
     go_loopw [8,45] (fun t i wr=>∃j:Nat,j≤1∧i=.int .i64 j∧Hid (TkR w1 bk (tp0 A B z f 1) (tp1 B z f 1) w6.heap.size (tpL A B z f 1) j t wr∧∀i,i < j→tpP A B z f 1 i≠-1)) (fun _ i _=>1 - (intOf i).toNat)
     case atStart=>exact⟨0,by omega,rfl,Lib.hid ⟨⟨HB6.out,HR6.out,OwnI.nil _ _,Nat.le_refl _⟩,fun i hi=>by omega⟩⟩
     case round=>
      rename_i u8 _
      obtain⟨j,hj,rfl,hR⟩:=hrel
      have hY:=hR.out.1.be
      by_cases hlt:j < 1
      ·have hcj:=hR.out.1.ar.cj (j:=j) (by omega)
       rw[show(if j=0 then tp0 A B z f 1 else tp1 B z f 1)=tpP A B z f 1 j from rfl] at hcj
       have hpd:=tpP_bd (f:=f) (c:=1) HAp.out j
       have hj0:(0:Int)≤(j:Int):=by omega
       have hjc:(j:Int) < 1:=by omega
       have e0:=(HX.out wr hY).c0
       have e1:=(HX.out wr hY).c1
       have e2:=(HX.out wr hY).c2
       have e3:=(HX.out wr hY).c3
       have HPL:=Lib.hid (fun(h:tpP A B z f 1 j≠-1)=>tpL_at HAp.out (by omega) hlt h)
       have HNO:=Lib.hid (fun(h:tpP A B z f 1 j = -1)=>tpOk_no hlt (by omega) h)
       have HPC:=Lib.hid (fun w'=>place_any A B z (tpP A B z f 1 j) (some ⟨b,off,none⟩) n cap w' (by unfold i64; omega) HAp.out)
       have HV:Hid (tpP A B z f 1 j≠-1→∀i,i < j+1→tpP A B z f 1 i≠-1):=Lib.hid fun h i hi=>by
        by_cases e:i=j
        ·subst e; exact h
        ·exact hR.out.2 i (by omega)
       generalize tpP A B z f 1 j=y at hcj hpd HPL HNO HPC HV
       cases hy:y == -1 with
       | true=>
        have HO:=Lib.hid (HEno.out (HNO.out (by simpa using hy)))
        have HB:=Lib.hid (HB1.out.trans (hY.mono HB1.out.size))
        clear HPL HNO HPC HV hR
        go_wp2_with fail
        go_ret3
        exact⟨by rw[HO.out.1,HO.out.2.1,HO.out.2.2.1]; rfl,by rw[HO.out.2.2.2]; exact Turn.same hx hs HB.out⟩
       | false=>
        have hyn:y≠-1:=by simpa using hy
        have HV':=Lib.hid (HV.out hyn)
        obtain⟨hpl,hln,_⟩:=HPL.out hyn
        rw[hpl,show clip ((tpL A B z f 1 j:Nat):Int)=(tpL A B z f 1 j:Nat) from if_pos (by omega),decide_eq_true (by omega)] at HPC
        clear HPL HNO hpl hyn HV
        have HLj:Hid ((List.range j).map (fun i=>(tpL A B z f 1 i:Int)) ++ [(tpL A B z f 1 j:Int)]=(List.range (j+1)).map (fun i=>(tpL A B z f 1 i:Int))):=Lib.hid (by simp[List.range_succ])
        have HRR:=Lib.hid hR.out.1
        clear hR
        generalize tpL A B z f 1 j=l at HPC hln HLj
        go_wp2_with fail
        refine(HPC.out wr).mono ?_
        rintro _ w2 ⟨rfl,hb2⟩
        dsimp only
        have HB2:=Lib.hid hb2
        clear hb2 e0 e1 e2 e3 hcj
        go_wp2_with (at_builtin; refine append_i1 rfl (.tmp 59) (.tmp 61) rfl w6.heap.size u8 _ rfl ((HRR.out.ow.below HB2.out).below ((Below.refl _ _).alloc (Nat.le_refl _) _)) w2.heap.size 1 (l:Int) rfl (World.cell?_alloc_new _ _ _ 0) (by simp; omega) (by have:=HRR.out.lt; have:=HB2.out.size; simp; omega) ?_; intro v' w3 hown hg; rw[HLj.out] at hown; have HN:=Lib.hid (HRR.out.next HBB.out.1 HBB.out.2 HB2.out hown hg); clear hown hg)
        go_roundw
        case rel=>exact⟨j+1,by omega,by go_num,Lib.hid ⟨HN.out,HV'.out⟩⟩
        case measure=>simp[intOf]; omega
      ·obtain rfl:j=1:=by omega
       have HO:=Lib.hid (HEyes.out (tpOk_all (by omega) hR.out.2))
       have HRR:=Lib.hid hR.out.1
       obtain⟨b8,c8,hu8,hb8,hb8l,hc8⟩:=hR.out.1.ow.slice.resolve_left (by rintro⟨_,h⟩; simp at h)
       rw[show((List.range 1).map fun i=>(tpL A B z f 1 i:Int)).length=1 by simp] at hu8 hc8
       have hgw:=hx.lt
       have hw61:=HRR.out.lt
       have HBE:=Lib.hid (become_any g A B z (some ⟨b,off,none⟩) n cap f 2 0 0 0 0 (some ⟨b8,0,none⟩) 1 c8 (tpL A B z f 1) wr (HX.out wr hY) ((HST.out).later hY) (by have:=HN2.out; have:=HAp.out.z1; omega) HBD.out (nx_bd (by omega)) (by omega)
        (fun i hi=>by have:=(tpL_at HAp.out (by omega) hi (hR.out.2 i hi)).2.1; have:=HN2.out; omega)
        (.inr ⟨b8,0,rfl,hb8l,by have:=HB1.out.size; have:=HB6.out.size; omega,fun i hi=>by rw[Nat.zero_add,hc8 i hi,show((List.range 1).map fun i=>(tpL A B z f 1 i:Int)).getD i 0=(tpL A B z f 1 i:Int) from tab_getD _ (fun i=>(tpL A B z f 1 i:Int)) hi]⟩))
       subst hu8
       clear hc8 hR
       have r0:=HRR.out.ar.c0
       have r1:=HRR.out.ar.c1
       go_wp2_with fail
       refine HBE.out.mono ?_
       rintro _ w8 ⟨⟨v8,rfl⟩,hT⟩
       dsimp only
       have HT:=Lib.hid hT
       have ar8:=HRR.out.ar.block (hT.only.block bk HRR.out.ar.lt (by have:=HB1.out.size; simp; omega))
       have q0:=ar8.c0
       have q1:=ar8.c1
       clear hT r0 r1
       go_wp2_with fail
       go_quiet (fail)
       go_wp2_with fail
       go_ret3
       exact⟨by rw[HO.out.1,HO.out.2.1,HO.out.2.2.1]; rfl,by rw[HO.out.2.2.2]; exact((HT.out.after hY).after HB1.out).drop (below_drewN (Below.refl _ _) _)⟩
  ·clear h1 h2
   have HAp:=Lib.hid (ap_of hp)
   have HN2:=Lib.hid hn2
   have HBD:=Lib.hid (bd_of hp hs.byte)
   have HEno:Hid (tpOk A B z f 2=false→tkp A B z n f 2=0∧tkq A B z n f 2=0∧tkE A B z n f 2=9∧tkF A B z n f 2=f):=Lib.hid fun h=>tk_no (c:=2) hp (by omega) h
   have HEyes:Hid (tpOk A B z f 2=true→tkp A B z n f 2=tp0 A B z f 2∧tkq A B z n f 2=tp1 B z f 2∧tkE A B z n f 2=0∧tkF A B z n f 2=bec (nx 2 0 0 0 0) (tpL A B z f 2) f 2):=Lib.hid fun h=>tk_yes (c:=2) hp (by omega) h
   clear hp hn2
   go_enter Tryz.func113,Tryz.ntmps113
   go_wp2_with fail
   refine HF.out.mono ?_
   rintro _ w1 ⟨rfl,hb1⟩
   dsimp only
   have HB1:=Lib.hid hb1
   have HX:=Lib.hid (fun w' (hw':Below w1.heap.size w1 w')=>(hx.below hb1 hx.lt).below hw' (by have:=hx.lt; have:=hb1.size; omega))
   have HST:=Lib.hid (hs.later hb1)
   obtain⟨_,_,e1',hbb,hnc,hcc⟩:=bytes_tab HST.out.lies (by have:=HN2.out; have:=HAp.out.z1; omega)
   injection e1' with e1'
   injection e1' with e1' e2'
   subst e1' e2'
   have HFA:=Lib.hid (fun w' (hw':Below w1.heap.size w1 w')=>firstFree0_any A B z b off n cap f w' (by have:=HAp.out.z1; omega) (by have:=HAp.out.z2; omega) HN2.out hnc (by have:=HAp.out; have:=this.a0; have:=HAp.out.ab; have:=HAp.out.b1; omega) (by have:=HAp.out; have:=this.a0; have:=HAp.out.ab; have:=HAp.out.b1; omega) (by have:=hw'.size; omega) (fun i hi=>(hw'.cell (p:=⟨b,off+i,none⟩) hbb).trans (hcc i hi)))
   have HFB:=Lib.hid (fun w' (hw':Below w1.heap.size w1 w')=>firstFree1_any A B z b off n cap f w' (by have:=HAp.out.z1; omega) (by have:=HAp.out.z2; omega) HN2.out hnc (by have:=HAp.out; have:=this.a0; have:=HAp.out.ab; have:=HAp.out.b1; omega) (by have:=HAp.out; have:=this.a0; have:=HAp.out.ab; have:=HAp.out.b1; omega) (by have:=hw'.size; omega) (fun i hi=>(hw'.cell (p:=⟨b,off+i,none⟩) hbb).trans (hcc i hi)))
   rw[show ff A f z=fA A z f from rfl] at HFA
   rw[show ff B (fun i=>f (z+i)) z=fB B z f from rfl] at HFB
   obtain⟨fa,hfa⟩:∃fa,fa=fA A z f:=⟨_,rfl⟩
   obtain⟨fb,hfb⟩:∃fb,fb=fB B z f:=⟨_,rfl⟩
   rw[←hfa] at HFA
   rw[←hfb] at HFB
   have HFa:=Lib.hid hfa
   have HFb:=Lib.hid hfb
   clear hfa hfb hcc hb1
   go_wp2_with fail
   refine QuietTail2.regionInv (n:=10) (Inv:=TkInv _ _ _ _ _ _ _ _ _ _ _ _ _ _ _ _ _ _ _ _ _ _ _ _ _ _ _ _ _ _ _ _ _ _ _ _ _ _ _ _ _ _ _ _ _ _ _ _ _ _ _ _ _ _ _ _ _ _ _ _ g A B fa fb 2 z b off n cap w1) (by kernel_rfl) (by decide) (by kernel_rfl) ⟨_,_,_,_,_,_,_,_,_,_,rfl,by simp,by simp,by simp,by simp,by simp,by simp,by simp,by simp,by simp,by simp,⟨rfl,rfl,rfl,Nat.le_refl _,fun _ _=>rfl⟩⟩ ?step ?fin
   case step=>
    rintro i o hi ho L a' w' ⟨u0,u1,u2,u3,u4,u5,u6,u7,u8,u9,rfl,i0,i1,i2,i3,i4,i5,i6,i7,i8,ia,iB⟩ hL hpre
    match i,hi with
    | 0,_=>
     simp at ho
     subst ho
     go_simp
     exact⟨_,u1,u2,u3,u4,u5,u6,u7,u8,u9,rfl,fun _=>rfl,tK i1 rfl,tK i2 rfl,tK i3 rfl,tK i4 rfl,tK i5 rfl,tK i6 rfl,tK i7 rfl,tK i8 rfl,tA ia rfl,iB⟩
    | 1,_=>
     simp at ho
     subst ho
     obtain rfl:=i0 (hpre 0 (by kernel_rfl))
     go_simp
     exact⟨_,_,u2,u3,u4,u5,u6,u7,u8,u9,rfl,tK i0 rfl,fun _=>rfl,tK i2 rfl,tK i3 rfl,tK i4 rfl,tK i5 rfl,tK i6 rfl,tK i7 rfl,tK i8 rfl,tA ia rfl,iB⟩
    | 2,_=>
     simp at ho
     subst ho
     obtain rfl:=i1 (hpre 1 (by kernel_rfl))
     have k0:=(HX.out w' iB).c0; have k1:=(HX.out w' iB).c1; have k2:=(HX.out w' iB).c2; have k3:=(HX.out w' iB).c3
     go_simp
     exact⟨u0,_,_,u3,u4,u5,u6,u7,u8,u9,rfl,tK i0 rfl,tK i1 rfl,fun _=>rfl,tK i3 rfl,tK i4 rfl,tK i5 rfl,tK i6 rfl,tK i7 rfl,tK i8 rfl,tA ia rfl,iB⟩
    | 3,_=>
     simp at ho
     subst ho
     obtain rfl:=i2 (hpre 2 (by kernel_rfl))
     go_simp
     refine(HFA.out w' iB).mono ?_
     rintro _ w'' ⟨rfl,hbp⟩
     exact⟨u0,u1,_,_,u4,u5,u6,u7,u8,u9,rfl,tK i0 rfl,tK i1 rfl,tK i2 rfl,fun _=>rfl,tK i4 rfl,tK i5 rfl,tK i6 rfl,tK i7 rfl,tK i8 rfl,tA (fun hl=>by obtain⟨bk,e1,e2,e3⟩:=ia hl; exact⟨bk,e1,e2,(hbp.block bk (Array.getElem?_eq_some_iff.1 e3).1).trans e3⟩) rfl,iB.trans (hbp.mono iB.size)⟩
    | 4,_=>
     simp at ho
     subst ho
     go_simp
     exact⟨u0,u1,u2,u3,_,u5,u6,u7,u8,u9,rfl,tK i0 rfl,tK i1 rfl,tK i2 rfl,tK i3 rfl,fun _=>rfl,tK i5 rfl,tK i6 rfl,tK i7 rfl,tK i8 rfl,tA ia rfl,iB⟩
    | 5,_=>
     simp at ho
     subst ho
     obtain rfl:=i4 (hpre 4 (by kernel_rfl))
     go_simp
     exact⟨u0,u1,u2,u3,_,_,u6,u7,u8,u9,rfl,tK i0 rfl,tK i1 rfl,tK i2 rfl,tK i3 rfl,tK i4 rfl,fun _=>rfl,tK i6 rfl,tK i7 rfl,tK i8 rfl,tA ia rfl,iB⟩
    | 6,_=>
     simp at ho
     subst ho
     obtain rfl:=i5 (hpre 5 (by kernel_rfl))
     have k0:=(HX.out w' iB).c0; have k1:=(HX.out w' iB).c1; have k2:=(HX.out w' iB).c2; have k3:=(HX.out w' iB).c3
     go_simp
     exact⟨u0,u1,u2,u3,u4,_,_,u7,u8,u9,rfl,tK i0 rfl,tK i1 rfl,tK i2 rfl,tK i3 rfl,tK i4 rfl,tK i5 rfl,fun _=>rfl,tK i7 rfl,tK i8 rfl,tA ia rfl,iB⟩
    | 7,_=>
     simp at ho
     subst ho
     obtain rfl:=i6 (hpre 6 (by kernel_rfl))
     go_simp
     refine(HFB.out w' iB).mono ?_
     rintro _ w'' ⟨rfl,hbp⟩
     exact⟨u0,u1,u2,u3,u4,u5,_,_,u8,u9,rfl,tK i0 rfl,tK i1 rfl,tK i2 rfl,tK i3 rfl,tK i4 rfl,tK i5 rfl,tK i6 rfl,fun _=>rfl,tK i8 rfl,tA (fun hl=>by obtain⟨bk,e1,e2,e3⟩:=ia hl; exact⟨bk,e1,e2,(hbp.block bk (Array.getElem?_eq_some_iff.1 e3).1).trans e3⟩) rfl,iB.trans (hbp.mono iB.size)⟩
    | 8,_=>
     simp at ho
     subst ho
     obtain rfl:=i3 (hpre 3 (by kernel_rfl))
     obtain rfl:=i7 (hpre 7 (by kernel_rfl))
     go_simp
     exact⟨u0,u1,u2,_,u4,u5,u6,_,_,u9,rfl,tK i0 rfl,tK i1 rfl,tK i2 rfl,tK i3 rfl,tK i4 rfl,tK i5 rfl,tK i6 rfl,tK i7 rfl,fun _=>rfl,tA ia rfl,iB⟩
    | 9,_=>
     simp at ho
     subst ho
     have hn:=heap_alloc_new w' (.cells #[.int .i64 0,.int .i64 0] 38)
     go_simp
     exact⟨u0,u1,u2,u3,u4,u5,u6,u7,u8,_,rfl,tK i0 rfl,tK i1 rfl,tK i2 rfl,tK i3 rfl,tK i4 rfl,tK i5 rfl,tK i6 rfl,tK i7 rfl,tK i8 rfl,fun _=>⟨_,rfl,iB.size,hn⟩,iB.alloc iB.size _⟩
    | i+10,h=>omega
   case fin=>
    rintro L a' w5 hall ⟨u0,u1,u2,u3,u4,u5,u6,u7,u8,u9,rfl,i0,i1,i2,i3,i4,i5,i6,i7,i8,ia,iB⟩
    obtain rfl:=i0 (hall 0 (by omega))
    obtain rfl:=i1 (hall 1 (by omega))
    obtain rfl:=i2 (hall 2 (by omega))
    obtain rfl:=i3 (hall 3 (by omega))
    obtain rfl:=i4 (hall 4 (by omega))
    obtain rfl:=i5 (hall 5 (by omega))
    obtain rfl:=i6 (hall 6 (by omega))
    obtain rfl:=i7 (hall 7 (by omega))
    obtain rfl:=i8 (hall 8 (by omega))
    obtain⟨bk,rfl,hbk,hbz⟩:=ia (hall 9 (by omega))
    clear i0 i1 i2 i3 i4 i5 i6 i7 i8 ia hall
    simp only[List.drop_succ_cons,List.drop_zero]
    have ar5:R2 w5 bk 0 0:=hbz
    have l0:=ar5.c0
    have l1:=ar5.c1
    have lf0:=ar5.fr 0
    have lf1:=ar5.fr 1
    clear hbz
    have HR6:Hid (R2 ((w5.setCell ⟨bk,0,none⟩ (.int .i64 fa)).setCell ⟨bk,1,none⟩ (.int .i64 fb)) bk (tp0 A B z f 2) (tp1 B z f 2)):=Lib.hid (by rw[show tp0 A B z f 2=fa from HFa.out.symm,show tp1 B z f 2=fb from HFb.out.symm]; exact(ar5.s0 fa).s1 fb)
    have HB6:Hid (Below w1.heap.size w1 ((w5.setCell ⟨bk,0,none⟩ (.int .i64 fa)).setCell ⟨bk,1,none⟩ (.int .i64 fb))):=Lib.hid ((iB.setCell hbk _).setCell hbk _)
    clear ar5 iB HFA HFB HFa HFb HF
    go_wp2_with fail
    generalize (w5.setCell ⟨bk,0,none⟩ (.int .i64 fa)).setCell ⟨bk,1,none⟩ (.int .i64 fb)=w6 at HR6 HB6 ⊢
    clear l0 l1 lf0 lf1
    have HBB:Hid (bk < w6.heap.size∧w1.heap.size≤w6.heap.size):=Lib.hid ⟨HR6.out.lt,HB6.out.size⟩
    go_wp2_with fail
    go_loopw [8,45] (fun t i wr=>∃j:Nat,j≤2∧i=.int .i64 j∧Hid (TkR w1 bk (tp0 A B z f 2) (tp1 B z f 2) w6.heap.size (tpL A B z f 2) j t wr∧∀i,i < j→tpP A B z f 2 i≠-1)) (fun _ i _=>2 - (intOf i).toNat)
    case atStart=>exact⟨0,by omega,rfl,Lib.hid ⟨⟨HB6.out,HR6.out,OwnI.nil _ _,Nat.le_refl _⟩,fun i hi=>by omega⟩⟩
    case round=>
     rename_i u8 _
     obtain⟨j,hj,rfl,hR⟩:=hrel
     have hY:=hR.out.1.be
     by_cases hlt:j < 2
     ·have hcj:=hR.out.1.ar.cj (j:=j) (by omega)
      rw[show(if j=0 then tp0 A B z f 2 else tp1 B z f 2)=tpP A B z f 2 j from rfl] at hcj
      have hpd:=tpP_bd (f:=f) (c:=2) HAp.out j
      have hj0:(0:Int)≤(j:Int):=by omega
      have hjc:(j:Int) < 2:=by omega
      have e0:=(HX.out wr hY).c0
      have e1:=(HX.out wr hY).c1
      have e2:=(HX.out wr hY).c2
      have e3:=(HX.out wr hY).c3
      have HPL:=Lib.hid (fun(h:tpP A B z f 2 j≠-1)=>tpL_at HAp.out (by omega) hlt h)
      have HNO:=Lib.hid (fun(h:tpP A B z f 2 j = -1)=>tpOk_no hlt (by omega) h)
      have HPC:=Lib.hid (fun w'=>place_any A B z (tpP A B z f 2 j) (some ⟨b,off,none⟩) n cap w' (by unfold i64; omega) HAp.out)
      have HV:Hid (tpP A B z f 2 j≠-1→∀i,i < j+1→tpP A B z f 2 i≠-1):=Lib.hid fun h i hi=>by
       by_cases e:i=j
       ·subst e; exact h
       ·exact hR.out.2 i (by omega)
      generalize tpP A B z f 2 j=y at hcj hpd HPL HNO HPC HV
      cases hy:y == -1 with
      | true=>
       have HO:=Lib.hid (HEno.out (HNO.out (by simpa using hy)))
       have HB:=Lib.hid (HB1.out.trans (hY.mono HB1.out.size))
       clear HPL HNO HPC HV hR
       go_wp2_with fail
       go_ret3
       exact⟨by rw[HO.out.1,HO.out.2.1,HO.out.2.2.1]; rfl,by rw[HO.out.2.2.2]; exact Turn.same hx hs HB.out⟩
      | false=>
       have hyn:y≠-1:=by simpa using hy
       have HV':=Lib.hid (HV.out hyn)
       obtain⟨hpl,hln,_⟩:=HPL.out hyn
       rw[hpl,show clip ((tpL A B z f 2 j:Nat):Int)=(tpL A B z f 2 j:Nat) from if_pos (by omega),decide_eq_true (by omega)] at HPC
       clear HPL HNO hpl hyn HV
       have HLj:Hid ((List.range j).map (fun i=>(tpL A B z f 2 i:Int)) ++ [(tpL A B z f 2 j:Int)]=(List.range (j+1)).map (fun i=>(tpL A B z f 2 i:Int))):=Lib.hid (by simp[List.range_succ])
       have HRR:=Lib.hid hR.out.1
       clear hR
       generalize tpL A B z f 2 j=l at HPC hln HLj
       go_wp2_with fail
       refine(HPC.out wr).mono ?_
       rintro _ w2 ⟨rfl,hb2⟩
       dsimp only
       have HB2:=Lib.hid hb2
       clear hb2 e0 e1 e2 e3 hcj
       go_wp2_with (at_builtin; refine append_i1 rfl (.tmp 59) (.tmp 61) rfl w6.heap.size u8 _ rfl ((HRR.out.ow.below HB2.out).below ((Below.refl _ _).alloc (Nat.le_refl _) _)) w2.heap.size 1 (l:Int) rfl (World.cell?_alloc_new _ _ _ 0) (by simp; omega) (by have:=HRR.out.lt; have:=HB2.out.size; simp; omega) ?_; intro v' w3 hown hg; rw[HLj.out] at hown; have HN:=Lib.hid (HRR.out.next HBB.out.1 HBB.out.2 HB2.out hown hg); clear hown hg)
       go_roundw
       case rel=>exact⟨j+1,by omega,by go_num,Lib.hid ⟨HN.out,HV'.out⟩⟩
       case measure=>simp[intOf]; omega
     ·obtain rfl:j=2:=by omega
      have HO:=Lib.hid (HEyes.out (tpOk_all (by omega) hR.out.2))
      have HRR:=Lib.hid hR.out.1
      obtain⟨b8,c8,hu8,hb8,hb8l,hc8⟩:=hR.out.1.ow.slice.resolve_left (by rintro⟨_,h⟩; simp at h)
      rw[show((List.range 2).map fun i=>(tpL A B z f 2 i:Int)).length=2 by simp] at hu8 hc8
      have hgw:=hx.lt
      have hw61:=HRR.out.lt
      have HBE:=Lib.hid (become_any g A B z (some ⟨b,off,none⟩) n cap f 2 0 0 0 0 (some ⟨b8,0,none⟩) 2 c8 (tpL A B z f 2) wr (HX.out wr hY) ((HST.out).later hY) (by have:=HN2.out; have:=HAp.out.z1; omega) HBD.out (nx_bd (by omega)) (by omega)
       (fun i hi=>by have:=(tpL_at HAp.out (by omega) hi (hR.out.2 i hi)).2.1; have:=HN2.out; omega)
       (.inr ⟨b8,0,rfl,hb8l,by have:=HB1.out.size; have:=HB6.out.size; omega,fun i hi=>by rw[Nat.zero_add,hc8 i hi,show((List.range 2).map fun i=>(tpL A B z f 2 i:Int)).getD i 0=(tpL A B z f 2 i:Int) from tab_getD _ (fun i=>(tpL A B z f 2 i:Int)) hi]⟩))
      subst hu8
      clear hc8 hR
      have r0:=HRR.out.ar.c0
      have r1:=HRR.out.ar.c1
      go_wp2_with fail
      refine HBE.out.mono ?_
      rintro _ w8 ⟨⟨v8,rfl⟩,hT⟩
      dsimp only
      have HT:=Lib.hid hT
      have ar8:=HRR.out.ar.block (hT.only.block bk HRR.out.ar.lt (by have:=HB1.out.size; simp; omega))
      have q0:=ar8.c0
      have q1:=ar8.c1
      clear hT r0 r1
      go_wp2_with fail
      go_quiet (fail)
      go_wp2_with fail
      go_ret3
      exact⟨by rw[HO.out.1,HO.out.2.1,HO.out.2.2.1]; rfl,by rw[HO.out.2.2.2]; exact((HT.out.after hY).after HB1.out).drop (below_drewN (Below.refl _ _) _)⟩
end
end Sp
end Go.Proofs.YteaocagepfgfnaaGreatDoor
