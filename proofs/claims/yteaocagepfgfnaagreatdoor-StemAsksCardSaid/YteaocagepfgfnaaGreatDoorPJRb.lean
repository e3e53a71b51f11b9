import Derived.Test.YteaocagepfgfnaaGreatDoorPDkMem
import Derived.Test.YteaocagepfgfnaaGreatDoorPSpTk
import Derived.BigRegion
import Derived.Test.YteaocagepfgfnaaGreatDoorPJDn
import Derived.Laws.CopyOwn
import Derived.IntWalk
import Derived.Deep.RegionHeld3
import Derived.Test.YteaocagepfgfnaaGreatDoorPAl
set_option maxRecDepth 100000
set_option maxHeartbeats 8000000
namespace Go.Proofs.YteaocagepfgfnaaGreatDoor
namespace Rm
open Go.RowKit Dk
theorem kL{L:Nat→Bool}{i j:Nat}{P:Prop}(h:L j=true→P)(hij:(j == i)=false):(j == i || L j)=true→P:=by rw[hij,Bool.false_or]; exact h
theorem keepL'{L:Nat→Bool}{i j:Nat}{P:Prop}(h:L j=false→P)(hij:(j == i)=false):(j == i || L j)=false→P:=by rw[hij,Bool.false_or]; exact h
def i64(z:Int):Prop:=-9223372036854775808≤z∧z≤9223372036854775807
def prV(F T:Nat→Int)(i:Nat):List Value:=[.int .i64 (F i),.int .i64 (T i)]
theorem right_no{s gen:Int}{n:Nat}{F T:Nat→Int}(h:halfN s=0∨gen < 0∨4611686018427387904 < gen∨20 < n):rightB s gen n F T=false:=by
 cases e:rightB s gen n F T with
 | false=>rfl
 | true=>
  obtain⟨h1,h2,h3,h4,_⟩:=right_parts e
  rcases h with h | h | h | h
  ·exact absurd h h1
  ·omega
  ·omega
  ·omega
theorem right_pair{s gen:Int}{n j:Nat}{F T:Nat→Int}(hj:j < n)(h:pairB (halfN s) s (F j) (T j)=false):rightB s gen n F T=false:=by
 cases e:rightB s gen n F T with
 | false=>rfl
 | true=>
  obtain⟨_,_,_,_,h5,_⟩:=right_parts e
  rw[pairsB_iff.1 h5 j hj] at h
  cases h
theorem right_end{s gen:Int}{n:Nat}{F T:Nat→Int}(h0:halfN s≠0)(h1:0≤gen)(h2:gen≤4611686018427387904)(h3:n≤20)(h4:pairsB (halfN s) s F T n=true):rightB s gen n F T=(distB F n && distB T n):=by
 unfold rightB
 rw[decide_eq_true h0,decide_eq_true h1,decide_eq_true h2,decide_eq_true h3,h4]
 simp
def SInv(x0 x1 x2 x3 x4 x5 x8 x10 x11 x12 x13 x14 x15 x16 x17 x18 x19 x20 x21 x22 x23 x24 x25 x26 x27 x28 x29 x30 x31 x32 x33 x34 x35 x36 x37 x38 x39 x40 x41 x42 x43 x44 x45 x46 x47 x48 x49 x50 x51 x52 x53 x54 x55 x56 x65 x66 x67 x68 x69 x70 x71 x72 x73 x74 x75 x76 x77 x78 x79:Value)(mf mt eb j:Nat)(F T:Nat→Int)(B:Nat)(w0:World)(L:Nat→Bool)(a':Act)(w':World):Prop:=
 ∃u0 u1 u2 u3 u4 u5 u6 u7,a'={ tmps:=#[x0,x1,x2,x3,x4,x5,.map (some mf),.map (some mt),x8,.pointer (some ⟨eb,0,none⟩),x10,x11,x12,x13,x14,x15,x16,x17,x18,x19,x20,x21,x22,x23,x24,x25,x26,x27,x28,x29,x30,x31,x32,x33,x34,x35,x36,x37,x38,x39,x40,x41,x42,x43,x44,x45,x46,x47,x48,x49,x50,x51,x52,x53,x54,x55,x56,u0,u1,u2,u3,u4,u5,u6,u7,x65,x66,x67,x68,x69,x70,x71,x72,x73,x74,x75,x76,x77,x78,x79],defers:=[] }∧(L 0=true→u0=.map (some mf))∧(L 1=true→u1=.pointer (some ⟨eb,0,none⟩))∧(L 2=true→u2=.int .i64 (F j))∧(L 3=true→u3=.map (some mt))∧(L 4=true→u4=.pointer (some ⟨eb,1,none⟩))∧(L 5=true→u5=.int .i64 (T j))∧(L 6=true→u6=.agg #[])∧(L 7=true→u7=.agg #[])∧
  Below B w0 w'∧B≤w'.heap.size∧eb < w'.heap.size∧w'.cell? ⟨eb,0,none⟩=some (.int .i64 (F j))∧w'.cell? ⟨eb,1,none⟩=some (.int .i64 (T j))∧(L 8=false→IsSet w' mf F j)∧(L 8=true→IsSet w' mf F (j+1))∧IsSet w' mt T j
theorem pair_one(a b:Int):(#[.int .i64 a,.int .i64 b]:Array Value).all (·.oneCell')=true:=by simp[Value.oneCell']
def RtI(B:Nat)(w0:World)(mf mt:Nat)(h s:Int)(F T:Nat→Int)(j:Nat)(w:World):Prop:=
 pairsB h s F T j=true∧IsSet w mf F j∧IsSet w mt T j∧Below B w0 w∧B≤w.heap.size
theorem right_any(s gen:Int)(n:Nat)(F T:Nat→Int)(pa:Option Addr)(cap g:Nat)(w:World)(hl:Lay w w.heap.size g pa n cap 2 (prV F T))(hn:n≤140737488355328)(hF:∀i,i < n→i64 (F i)∧i64 (T i)) :
  Calls Tryz.prog 117 #[.agg #[.int .i64 gen,.slice pa n cap],.int .i64 s] w fun e w'=>e=.returned (.bool (rightB s gen n F T))∧Below w.heap.size w w':=by
 have HL:=Lib.hid hl
 have HF:=Lib.hid hF
 have HNO:=Lib.hid (@right_no s gen n F T)
 have HPA:=Lib.hid (fun j hj hp=>@right_pair s gen n j F T hj hp)
 have HEN:=Lib.hid (@right_end s gen n F T)
 have hbd:=halfN_bd s
 have HH:=Lib.hid (fun W=>half_any s W)
 clear hl hF
 generalize rightB s gen n F T=R at HNO HPA HEN ⊢
 generalize halfN s=h at HNO HPA HEN HH hbd ⊢
 obtain⟨hb0,hb1,hb2'⟩:=hbd
 have hb2:=Lib.hid hb2'
 clear hb2'
 have hmm:=@run_makeMap Tryz.prog
 go_enter Tryz.func117,Tryz.ntmps117
 go_wp2_with fail
 generalize hW:w.alloc (.cells #[.int .i64 gen,.slice pa n cap] 37)=W
 have hB0:Below w.heap.size w W:=by rw[←hW]; exact(Below.refl _ _).alloc (Nat.le_refl _) _
 have hx0:W.heap[w.heap.size]?=some (.cells #[.int .i64 gen,.slice pa n cap] 37 (0,0)):=by rw[←hW]; exact heap_alloc_new _ _
 have hs0:W.heap.size=w.heap.size+1:=by rw[←hW]; simp
 clear hW
 refine(HH.out W).mono ?_
 rintro _ w1 ⟨rfl,hB1⟩
 have hx1:=(hB1.block w.heap.size (by omega)).trans hx0
 have c0:w1.cell? ⟨w.heap.size,0,none⟩=some (.int .i64 gen):=by rw[cell_of_row _ _ _ _ _ _ hx1]; rfl
 have c1:w1.cell? ⟨w.heap.size,1,none⟩=some (.slice pa n cap):=by rw[cell_of_row _ _ _ _ _ _ hx1]; rfl
 have hB:Below w.heap.size w w1:=hB0.trans (hB1.mono (by omega))
 have hs1:w.heap.size < w1.heap.size:=by have:=hB1.size; omega
 clear hB0 hB1 hx0 HH
 dsimp only
 by_cases e0:h=0
 ·have HR:=Lib.hid (HNO.out (.inl e0))
  subst e0
  go_wp2_with fail
  go_ret
  exact⟨by rw[HR.out]; rfl,hB⟩
 have e0':(h == 0)=false:=by simpa using e0
 by_cases e1:gen < 0
 ·have HR:=Lib.hid (HNO.out (.inr (.inl e1)))
  go_wp2_with fail
  go_ret
  exact⟨by rw[HR.out]; rfl,hB⟩
 by_cases e2:4611686018427387904 < gen
 ·have HR:=Lib.hid (HNO.out (.inr (.inr (.inl e2))))
  go_wp2_with fail
  go_ret
  exact⟨by rw[HR.out]; rfl,hB⟩
 by_cases e3:20 < n
 ·have HR:=Lib.hid (HNO.out (.inr (.inr (.inr e3))))
  have e3':(20:Int) < (n:Int):=by omega
  go_wp2_with fail
  go_ret
  exact⟨by rw[HR.out]; rfl,hB⟩
 have e3':¬ (20:Int) < (n:Int):=by omega
 obtain⟨hb3,hb4'⟩:=hb2.out e0
 have hb5:s≤4096:=by omega
 clear hb4'
 have HEN2:=Lib.hid (HEN.out e0 (by omega) (by omega) (by omega))
 clear hb2 HNO HEN
 have hM1:=IsSet.made w1 F
 have hM2:=IsSet.made (w1.alloc (.map #[] 0)) T
 have hM1':=hM1.below ((Below.refl _ _).alloc (Nat.le_refl _) (.map #[] 0))
 rw[World.size_alloc] at hM2
 have hB2:Below w.heap.size w ((w1.alloc (.map #[] 0)).alloc (.map #[] 0)):=(hB.alloc hB.size _).alloc (by simp; have:=hB.size; omega) _
 have hs2:((w1.alloc (.map #[] 0)).alloc (.map #[] 0)).heap.size=w1.heap.size+2:=by simp
 have c1':((w1.alloc (.map #[] 0)).alloc (.map #[] 0)).cell? ⟨w.heap.size,1,none⟩=some (.slice pa n cap):=(World.cell?_alloc_lt _ _ _ (by simp; omega)).trans ((World.cell?_alloc_lt _ _ _ hs1).trans c1)
 clear hM1 hx1
 go_wp2_with fail
 generalize (w1.alloc (.map #[] 0)).alloc (.map #[] 0)=W at hM1' hM2 hB2 hs2 c1' ⊢
 generalize w1.heap.size=mf at hM1' hM2 hs2 hs1 ⊢
 have HI:Hid (RtI w.heap.size w mf (mf+1) h s F T 0 W∧W.cell? ⟨w.heap.size,1,none⟩=some (.slice pa n cap)):=Lib.hid ⟨⟨rfl,hM1',hM2,hB2,hB2.size⟩,c1'⟩
 clear hM1' hM2 hB2 c1' hs2 c0 c1
 go_loopw [35] (fun i wr=>∃j:Nat,j≤n∧i=.int .i64 j∧Hid (RtI w.heap.size w mf (mf+1) h s F T j wr∧wr.cell? ⟨w.heap.size,1,none⟩=some (.slice pa n cap))) (fun i _=>n - (intOf i).toNat)
 case atStart=>exact⟨0,by omega,rfl,HI⟩
 case round=>
  obtain⟨j,hj,rfl,hR⟩:=hrel
  clear HI
  by_cases hlt:j < n
  ·obtain⟨b,off,rfl,hbl,_,hrow⟩:=HL.out.rows.resolve_left (by omega)
   obtain⟨⟨hps,hA1,hA2,hBr,hBs⟩,hc1⟩:=hR.out
   have dF:wr.cell? ⟨b,off+j * 2,none⟩=some (.int .i64 (F j)):=(hBr.cell (p:=⟨b,off+j * 2,none⟩) hbl).trans (hrow j hlt 0 _ rfl)
   have dT:wr.cell? ⟨b,off+j * 2+1,none⟩=some (.int .i64 (T j)):=(hBr.cell (p:=⟨b,off+j * 2+1,none⟩) hbl).trans (hrow j hlt 1 _ rfl)
   obtain⟨hFj,hTj⟩:=HF.out j hlt
   have hj0:(0:Int)≤(j:Int):=by omega
   have hjn:(j:Int) < (n:Int):=by omega
   have hj20:j≤1000000:=by omega
   have hPJ:=Lib.hid (HPA.out j hlt)
   have hmt:=hA2.lt
   have hAA1:=Lib.hid hA1
   have hAA2:=Lib.hid hA2
   have hPS:=Lib.hid hps
   clear hrow hR hA1 hA2 hps
   go_wp2_with (refine wpList_store_row rfl 110 (.tmp 9) (.tmp 38) rfl wr.heap.size #[.int .i64 (F j),.int .i64 (T j)] rfl rfl 110 _ (heap_alloc_new wr _) (by kernel_rfl) rfl (pair_one _ _) ?_; rw[World.setRow_alloc_new]; simp only[Act.put])
   generalize hW2:wr.alloc (.cells #[.int .i64 (F j),.int .i64 (T j)] 110)=W2
   have hb2w:Below wr.heap.size wr W2:=by rw[←hW2]; exact(Below.refl _ _).alloc (Nat.le_refl _) _
   have hx2:W2.heap[wr.heap.size]?=some (.cells #[.int .i64 (F j),.int .i64 (T j)] 110 (0,0)):=by rw[←hW2]; exact heap_alloc_new _ _
   have hz2:W2.heap.size=wr.heap.size+1:=by rw[←hW2]; simp
   clear hW2 dF dT
   refine(lent_any h (F j) W2 hb0 (by omega)).mono ?_
   rintro _ w3 ⟨rfl,hb3⟩
   have hb3w:Below wr.heap.size wr w3:=hb2w.trans (hb3.mono (by omega))
   have hx3:=(hb3.block wr.heap.size (by omega)).trans hx2
   have c0:w3.cell? ⟨wr.heap.size,0,none⟩=some (.int .i64 (F j)):=by rw[cell_of_row _ _ _ _ _ _ hx3]; rfl
   have c1:w3.cell? ⟨wr.heap.size,1,none⟩=some (.int .i64 (T j)):=by rw[cell_of_row _ _ _ _ _ _ hx3]; rfl
   have hB3:Below w.heap.size w w3:=hBr.trans (hb3w.mono hBs)
   have hz3:=hb3.size
   clear hb3 hb2w hx2
   cases hle:lentB h (F j) with
   | false=>
    have HR:=Lib.hid (hPJ.out (by unfold pairB; rw[hle]; rfl))
    clear hle
    dsimp only
    go_wp2_with fail
    go_ret
    exact⟨by rw[HR.out]; rfl,hB3⟩
   | true=>
    by_cases t1:T j < 2 * h
    ·have HR:=Lib.hid (hPJ.out (by unfold pairB; rw[decide_eq_false (p:=2 * h≤T j) (by omega)]; simp))
     clear hle
     dsimp only
     go_wp2_with fail
     go_ret
     exact⟨by rw[HR.out]; rfl,hB3⟩
    ·by_cases t2:s≤T j
     ·have HR:=Lib.hid (hPJ.out (by unfold pairB; rw[decide_eq_false (p:=T j < s) (by omega)]; simp))
      clear hle
      dsimp only
      go_wp2_with fail
      go_ret
      exact⟨by rw[HR.out]; rfl,hB3⟩
     ·have hPN:Hid (pairsB h s F T (j+1)=true):=Lib.hid (by simp only[pairsB,hPS.out,Bool.true_and]; unfold pairB; rw[hle,decide_eq_true (p:=2 * h≤T j) (by omega),decide_eq_true (p:=T j < s) (by omega)]; rfl)
      clear hle hPJ hPS
      dsimp only
      go_wp2_with fail
      have hmw:mf≤w3.heap.size:=by omega
      have hk1:w3.cell? ⟨w.heap.size,1,none⟩=some (.slice (some ⟨b,off,none⟩) n cap):=(hb3w.cell (p:=⟨w.heap.size,1,none⟩) (show w.heap.size < wr.heap.size by omega)).trans hc1
      refine QuietTail2.regionInv (n:=9) (Inv:=SInv _ _ _ _ _ _ _ _ _ _ _ _ _ _ _ _ _ _ _ _ _ _ _ _ _ _ _ _ _ _ _ _ _ _ _ _ _ _ _ _ _ _ _ _ _ _ _ _ _ _ _ _ _ _ _ _ _ _ _ _ _ _ _ _ _ _ _ _ _ mf (mf+1) wr.heap.size j F T mf w3) (by kernel_rfl) (by decide) (by kernel_rfl) ⟨_,_,_,_,_,_,_,_,rfl,by simp,by simp,by simp,by simp,by simp,by simp,by simp,by simp,⟨rfl,rfl,rfl,Nat.le_refl _,fun _ _=>rfl⟩,hmw,by show wr.heap.size < w3.heap.size; omega,c0,c1,fun _=>hAA1.out.below (hb3w.trans ⟨rfl,rfl,rfl,Nat.le_refl _,fun _ _=>rfl⟩),by simp,hAA2.out.below (hb3w.trans ⟨rfl,rfl,rfl,Nat.le_refl _,fun _ _=>rfl⟩)⟩ ?step ?fin
      case step=>
       rintro i o hi ho L a' w' ⟨u0,u1,u2,u3,u4,u5,u6,u7,rfl,i0,i1,i2,i3,i4,i5,i6,i7,iB,iS,iE,iF,iT,iM,iM1,iN⟩ hL hpre
       match i,hi with
       | 0,_=>
        simp at ho
        subst ho
        go_simp
        exact⟨_,u1,u2,u3,u4,u5,u6,u7,rfl,fun _=>rfl,kL i1 rfl,kL i2 rfl,kL i3 rfl,kL i4 rfl,kL i5 rfl,kL i6 rfl,kL i7 rfl,iB,iS,iE,iF,iT,keepL' iM rfl,kL iM1 rfl,iN⟩
       | 1,_=>
        simp at ho
        subst ho
        go_simp
        exact⟨u0,_,u2,u3,u4,u5,u6,u7,rfl,kL i0 rfl,fun _=>rfl,kL i2 rfl,kL i3 rfl,kL i4 rfl,kL i5 rfl,kL i6 rfl,kL i7 rfl,iB,iS,iE,iF,iT,keepL' iM rfl,kL iM1 rfl,iN⟩
       | 2,_=>
        simp at ho
        subst ho
        obtain rfl:=i1 (hpre 1 (by kernel_rfl))
        go_simp
        exact⟨u0,_,_,u3,u4,u5,u6,u7,rfl,kL i0 rfl,kL i1 rfl,fun _=>rfl,kL i3 rfl,kL i4 rfl,kL i5 rfl,kL i6 rfl,kL i7 rfl,iB,iS,iE,iF,iT,keepL' iM rfl,kL iM1 rfl,iN⟩
       | 3,_=>
        simp at ho
        subst ho
        go_simp
        exact⟨u0,u1,u2,_,u4,u5,u6,u7,rfl,kL i0 rfl,kL i1 rfl,kL i2 rfl,fun _=>rfl,kL i4 rfl,kL i5 rfl,kL i6 rfl,kL i7 rfl,iB,iS,iE,iF,iT,keepL' iM rfl,kL iM1 rfl,iN⟩
       | 4,_=>
        simp at ho
        subst ho
        go_simp
        exact⟨u0,u1,u2,u3,_,u5,u6,u7,rfl,kL i0 rfl,kL i1 rfl,kL i2 rfl,kL i3 rfl,fun _=>rfl,kL i5 rfl,kL i6 rfl,kL i7 rfl,iB,iS,iE,iF,iT,keepL' iM rfl,kL iM1 rfl,iN⟩
       | 5,_=>
        simp at ho
        subst ho
        obtain rfl:=i4 (hpre 4 (by kernel_rfl))
        go_simp
        exact⟨u0,u1,u2,u3,_,_,u6,u7,rfl,kL i0 rfl,kL i1 rfl,kL i2 rfl,kL i3 rfl,kL i4 rfl,fun _=>rfl,kL i6 rfl,kL i7 rfl,iB,iS,iE,iF,iT,keepL' iM rfl,kL iM1 rfl,iN⟩
       | 6,_=>
        simp at ho
        subst ho
        go_simp
        exact⟨u0,u1,u2,u3,u4,u5,_,u7,rfl,kL i0 rfl,kL i1 rfl,kL i2 rfl,kL i3 rfl,kL i4 rfl,kL i5 rfl,fun _=>rfl,kL i7 rfl,iB,iS,iE,iF,iT,keepL' iM rfl,kL iM1 rfl,iN⟩
       | 7,_=>
        simp at ho
        subst ho
        go_simp
        exact⟨u0,u1,u2,u3,u4,u5,u6,_,rfl,kL i0 rfl,kL i1 rfl,kL i2 rfl,kL i3 rfl,kL i4 rfl,kL i5 rfl,kL i6 rfl,fun _=>rfl,iB,iS,iE,iF,iT,keepL' iM rfl,kL iM1 rfl,iN⟩
       | 8,_=>
        simp at ho
        subst ho
        obtain rfl:=i0 (hpre 0 (by kernel_rfl))
        obtain rfl:=i2 (hpre 2 (by kernel_rfl))
        obtain rfl:=i6 (hpre 6 (by kernel_rfl))
        have hM:=iM hL
        refine wp_add (.tmp 57) (.tmp 59) (.tmp 63) rfl mf j F hj20 rfl hM rfl rfl hFj ?_
        intro w'' hM1 hg
        have hsz:=hg.size
        have hEb:some wr.heap.size≠some mf:=by intro h; injection h with h; omega
        exact⟨_,u1,_,u3,u4,u5,_,u7,rfl,kL i0 rfl,kL i1 rfl,kL i2 rfl,kL i3 rfl,kL i4 rfl,kL i5 rfl,kL i6 rfl,kL i7 rfl,iB.grown hg iS (fun k hk=>by injection hk with hk; omega),by omega,by omega,(World.cell?_of_block (hg.block wr.heap.size iE hEb)).trans iF,(World.cell?_of_block (hg.block wr.heap.size iE hEb)).trans iT,fun h=>by simp at h,fun _=>hM1,iN.kept hg (by intro h; injection h with h; omega)⟩
       | i+9,h=>omega
      case fin=>
       rintro L a' w' hall ⟨u0,u1,u2,u3,u4,u5,u6,u7,rfl,i0,i1,i2,i3,i4,i5,i6,i7,iB,iS,iE,iF,iT,iM,iM1,iN⟩
       obtain rfl:=i3 (hall 3 (by omega))
       obtain rfl:=i5 (hall 5 (by omega))
       obtain rfl:=i7 (hall 7 (by omega))
       have hM9:=iM1 (hall 8 (by omega))
       simp only[List.drop_succ_cons,List.drop_zero]
       refine wpList_add rfl (.tmp 60) (.tmp 62) (.tmp 64) rfl (mf+1) j T hj20 rfl iN rfl rfl hTj ?_
       intro w5 hN5 hg5
       have hB5:Below mf w3 w5:=iB.grown hg5 iS (fun k hk=>by injection hk with hk; omega)
       have HN:Hid (RtI w.heap.size w mf (mf+1) h s F T (j+1) w5∧w5.cell? ⟨w.heap.size,1,none⟩=some (.slice (some ⟨b,off,none⟩) n cap)):=Lib.hid ⟨⟨hPN.out,hM9.kept hg5 (by intro h; injection h with h; omega),hN5,hB3.trans (hB5.mono (by omega)),by have:=hB5.size; omega⟩,(hB5.cell (p:=⟨w.heap.size,1,none⟩) (show w.heap.size < mf by omega)).trans hk1⟩
       clear hB5 hg5 hN5 hM9 iB iS iE iF iT iM iM1 iN i0 i1 i2 i3 i4 i5 i6 i7 hall hk1 hAA1 hAA2 c0 c1 hx3 hb3w hB3
       go_wp2_with fail
       go_roundw
       case rel=>exact⟨j+1,by omega,by go_num,HN⟩
       case measure=>simp[intOf]; omega
  ·obtain rfl:j=n:=by omega
   obtain⟨⟨hps,hA1,hA2,hBr,hBs⟩,hc1⟩:=hR.out
   have hlen1:=fun ty=>World.ownsMap.len hA1 map_t ty
   have hlen2:=fun ty=>World.ownsMap.len hA2 map_t ty
   have hz1:=setD_size F j
   have hz2:=setD_size T j
   have hR2:=HEN2.out hps
   clear hA1 hA2 hps hR HEN2
   generalize Maps.size (setD F j)=z1 at hlen1 hz1
   generalize Maps.size (setD T j)=z2 at hlen2 hz2
   cases d1:distB F j with
   | false=>
    have hne:z1≠j:=fun e=>by rw[hz1.2.1 e] at d1; cases d1
    have e1:((z1:Int) == (j:Int))=false:=by simp; omega
    have HR:Hid (R=false):=Lib.hid (by rw[hR2,d1]; rfl)
    clear hz1 hz2 hR2 d1
    go_wp2_with fail
    go_ret
    exact⟨by rw[HR.out]; rfl,hBr⟩
   | true=>
    have e0:z1=j:=hz1.2.2 d1
    subst e0
    cases d2:distB T z1 with
    | false=>
     have hne:z2≠z1:=fun e=>by rw[hz2.2.1 e] at d2; cases d2
     have e1:((z2:Int) == (z1:Int))=false:=by simp; omega
     have HR:Hid (R=false):=Lib.hid (by rw[hR2,d1,d2]; rfl)
     clear hz1 hz2 hR2 d1 d2
     go_wp2_with fail
     go_ret
     exact⟨by rw[HR.out]; rfl,hBr⟩
    | true=>
     have e1:z2=z1:=hz2.2.2 d2
     subst e1
     have HR:Hid (R=true):=Lib.hid (by rw[hR2,d1,d2]; rfl)
     clear hz1 hz2 hR2 d1 d2
     go_wp2_with fail
     go_ret
     exact⟨by rw[HR.out]; rfl,hBr⟩
end Rm
namespace Rm
open Go.RowKit Dk
theorem find1_any(xb:Nat)(a b x:Int)(w:World)(hc:w.cell? ⟨xb,0,none⟩=some (.int .i64 x)) :
  Calls Tryz.prog 179 #[.agg #[.int .i64 a,.int .i64 b],.pointer (some ⟨xb,0,none⟩)] w fun e w'=>e=.returned (.bool (a == x))∧Below w.heap.size w w':=by
 have hlt:=World.block_lt_of_cell? w _ hc
 have hc':(w.alloc (.cells #[.int .i64 a,.int .i64 b] 110)).cell? ⟨xb,0,none⟩=some (.int .i64 x):=(World.cell?_alloc_lt _ _ _ hlt).trans hc
 go_enter Tryz.func179,Tryz.ntmps179
 go_wp2_with fail
 go_ret
 exact⟨rfl,(Below.refl _ _).alloc (Nat.le_refl _) _⟩
theorem pr_cells{w:World}{n:Nat}{F T:Nat→Int}{b off:Nat}(hr:∀i,i < n→w.rangeAt b (off+i * 2) (prV F T i)){j:Nat}(hj:j < n):w.cell? ⟨b,off+j * 2,none⟩=some (.int .i64 (F j))∧w.cell? ⟨b,off+j * 2+1,none⟩=some (.int .i64 (T j)):=
 ⟨hr j hj 0 _ rfl,hr j hj 1 _ rfl⟩
theorem idx_any(n:Nat)(F T:Nat→Int)(pa:Option Addr)(cap g xb:Nat)(x:Int)(w:World)(hl:Lay w w.heap.size g pa n cap 2 (prV F T))(hn:n≤140737488355328)(hc:w.cell? ⟨xb,0,none⟩=some (.int .i64 x)) :
  Calls Tryz.prog 178 #[.slice pa n cap,.func (.func 179) #[] #[.pointer (some ⟨xb,0,none⟩)]] w fun e w'=>e=.returned (.int .i64 (findI F x n))∧Below w.heap.size w w':=by
 have hxb:=World.block_lt_of_cell? w _ hc
 have HL:=Lib.hid hl
 have HC:=Lib.hid hc
 clear hl hc
 go_enter Tryz.func178,Tryz.ntmps178
 go_wp2_with fail
 go_loopw [8] (fun i wr=>∃j:Nat,j≤n∧i=.int .i64 j∧Hid (noneB F x j=true∧Below w.heap.size w wr)) (fun i _=>n - (intOf i).toNat)
 case atStart=>exact⟨0,by omega,rfl,Lib.hid ⟨rfl,Below.refl _ _⟩⟩
 case round=>
  obtain⟨j,hj,rfl,hR⟩:=hrel
  by_cases hlt:j < n
  ·obtain⟨b,off,rfl,hb,_,hrow⟩:=HL.out.rows.resolve_left (by omega)
   obtain⟨d0,d1⟩:=pr_cells hrow hlt
   have cF:=(hR.out.2.cell (p:=⟨b,off+j * 2,none⟩) hb).trans d0
   have cT:=(hR.out.2.cell (p:=⟨b,off+j * 2+1,none⟩) hb).trans d1
   have cx:=(hR.out.2.cell (p:=⟨xb,0,none⟩) hxb).trans HC.out
   have hj0:(0:Int)≤(j:Int):=by omega
   have hjn:(j:Int) < (n:Int):=by omega
   clear hrow d0 d1
   go_wp2_with fail
   refine(find1_any xb (F j) (T j) x wr cx).mono ?_
   rintro _ w2 ⟨rfl,hb2⟩
   have hB2:=hR.out.2.trans (hb2.mono hR.out.2.size)
   by_cases e:F j=x
   ·have e':(F j == x)=true:=by simpa using e
    have HV:=Lib.hid (find_at (n:=n) hR.out.1 e hlt)
    rw[e']
    clear cF cT cx e e' hb2
    dsimp only
    go_wp2_with fail
    go_ret
    exact⟨by rw[HV.out]; rfl,hB2⟩
   ·have e':(F j == x)=false:=by simpa using e
    have HN:Hid (noneB F x (j+1)=true∧Below w.heap.size w w2):=Lib.hid ⟨by simp only[noneB,hR.out.1,Bool.true_and]; simpa using e,hB2⟩
    rw[e']
    clear cF cT cx e e' hb2 hR hB2
    dsimp only
    go_wp2_with fail
    go_roundw
    case rel=>exact⟨j+1,by omega,by go_num,HN⟩
    case measure=>simp[intOf]; omega
  ·obtain rfl:j=n:=by omega
   have HV:=Lib.hid (find_none hR.out.1)
   have hB:=hR.out.2
   clear hR
   go_wp2_with fail
   go_ret
   exact⟨by rw[HV.out]; rfl,hB⟩
theorem find_any(n:Nat)(F T:Nat→Int)(pa:Option Addr)(cap g:Nat)(x:Int)(w:World)(hl:Lay w w.heap.size g pa n cap 2 (prV F T))(hn:n≤140737488355328) :
  Calls Tryz.prog 173 #[.slice pa n cap,.int .i64 x] w fun e w'=>e=.returned (.int .i64 (findI F x n))∧Below w.heap.size w w':=by
 have HL:=Lib.hid hl
 clear hl
 have hb0:Below w.heap.size w (w.alloc (.cells #[.int .i64 x] 3)):=(Below.refl _ _).alloc (Nat.le_refl _) _
 have hx0:(w.alloc (.cells #[.int .i64 x] 3)).cell? ⟨w.heap.size,0,none⟩=some (.int .i64 x):=by rw[cell_of_row _ _ _ _ _ _ (heap_alloc_new _ _)]; rfl
 have hs0:w.heap.size≤(w.alloc (.cells #[.int .i64 x] 3)).heap.size:=by simp
 go_enter Tryz.func173,Tryz.ntmps173
 go_wp2_with fail
 generalize w.alloc (.cells #[.int .i64 x] 3)=W at hb0 hx0 hs0 ⊢
 refine(idx_any n F T pa cap g w.heap.size x W ((HL.out.below hb0).more hs0) hn hx0).mono ?_
 rintro _ w1 ⟨rfl,hb1⟩
 dsimp only
 go_wp2_with fail
 go_ret
 exact⟨rfl,hb0.trans (hb1.mono hs0)⟩
theorem at_any(gen:Int)(n:Nat)(F T:Nat→Int)(pa:Option Addr)(cap g:Nat)(x:Int)(w:World)(hl:Lay w w.heap.size g pa n cap 2 (prV F T))(hn:n≤140737488355328) :
  Calls Tryz.prog 161 #[.agg #[.int .i64 gen,.slice pa n cap],.int .i64 x] w fun e w'=>e=.returned (.int .i64 (atT F T n x))∧Below w.heap.size w w':=by
 have HL:=Lib.hid hl
 clear hl
 have hb0:Below w.heap.size w (w.alloc (.cells #[.int .i64 gen,.slice pa n cap] 37)):=(Below.refl _ _).alloc (Nat.le_refl _) _
 have hx0:(w.alloc (.cells #[.int .i64 gen,.slice pa n cap] 37)).heap[w.heap.size]?=some (.cells #[.int .i64 gen,.slice pa n cap] 37 (0,0)):=heap_alloc_new _ _
 have hs0:(w.alloc (.cells #[.int .i64 gen,.slice pa n cap] 37)).heap.size=w.heap.size+1:=by simp
 have hbd:=find_bd F x n
 have hA:atT F T n x=if 0≤findI F x n then T (findI F x n).toNat else x:=rfl
 have HFI:=Lib.hid (fun W hl=>find_any n F T pa cap g x W hl hn)
 generalize findI F x n=k at hbd hA HFI
 obtain⟨hk0,hk1,_⟩:=hbd
 go_enter Tryz.func161,Tryz.ntmps161
 go_wp2_with fail
 generalize w.alloc (.cells #[.int .i64 gen,.slice pa n cap] 37)=W at hb0 hx0 hs0 ⊢
 refine(HFI.out W ((HL.out.below hb0).more (by omega))).mono ?_
 rintro _ w1 ⟨rfl,hb1⟩
 have hx1:=(hb1.block w.heap.size (by omega)).trans hx0
 have c1:w1.cell? ⟨w.heap.size,1,none⟩=some (.slice pa n cap):=by rw[cell_of_row _ _ _ _ _ _ hx1]; rfl
 have hB:Below w.heap.size w w1:=hb0.trans (hb1.mono (by omega))
 have hL1:=HL.out.below hB
 clear hb0 hb1 hx0 hx1 HFI
 by_cases hk:0≤k
 ·rw[if_pos hk] at hA
  obtain⟨j,rfl⟩:∃j:Nat,k=j:=⟨k.toNat,by omega⟩
  rw[Int.toNat_natCast] at hA
  have HA:=Lib.hid hA
  clear hA
  obtain⟨b,off,rfl,hb,_,hrow⟩:=hL1.rows.resolve_left (by omega)
  obtain⟨d0,d1⟩:=pr_cells hrow (j:=j) (by omega)
  clear hrow d0 hL1
  dsimp only
  go_wp2_with fail
  go_ret
  exact⟨by rw[HA.out]; rfl,hB⟩
 ·rw[if_neg hk] at hA
  have HA:=Lib.hid hA
  clear hA
  dsimp only
  go_wp2_with fail
  go_ret
  exact⟨by rw[HA.out]; rfl,hB⟩
end Rm
namespace Rm
open Go.RowKit Byt
def Bytes(f:Nat→Int):Prop:=∀i,i < 128→0≤f i∧f i < 256
theorem put_bytes{f:Nat→Int}(h:Bytes f)(j:Nat){z:Int}(h0:0≤z)(h1:z < 256):Bytes (put f j z):=by
 intro i hi
 unfold put
 split
 ·exact⟨h0,h1⟩
 ·exact h i hi
theorem putF_bytes{f:Nat→Int}(h:Bytes f)(a k z:Int):Bytes (Wd.putF 128 a k z f):=by
 unfold Wd.putF
 split
 ·exact fun i hi=>mix_byte h (fun i _=>Wd.byteAt_bd z i) i hi
 ·exact h
theorem head_bytes(gen:Int){n:Nat}(hn:n≤20):Bytes (head gen n):=by
 unfold head
 exact put_bytes (putF_bytes (put_bytes (fun _ _=>⟨by omega,by omega⟩) 0 (by omega) (by omega)) _ _ _) 9 (by omega) (by omega)
theorem pairs_bytes(F T:Nat→Int){D:Nat→Int}(hD:Bytes D):∀j,Bytes (pairsD F T D j)
 | 0=>hD
 | j+1=>putF_bytes (putF_bytes (pairs_bytes F T hD j) _ _ _) _ _ _
theorem tab_bytes(gen:Int){n:Nat}(F T:Nat→Int)(hn:n≤20):Bytes (tabD gen n F T):=pairs_bytes F T (head_bytes gen hn) n
theorem own_block{w:World}{g B:Nat}{f:Nat→Int}(hr:Row w g 0 128 f)(hB:B≤g):Wd.Own w B (some ⟨g,0,none⟩) 128 128 f:=⟨Nat.le_refl _,(fun e=>by cases e),.inr ⟨g,rfl,hB,hr⟩⟩
theorem own_row{w:World}{g B:Nat}{f:Nat→Int}(h:Wd.Own w B (some ⟨g,0,none⟩) 128 128 f):Row w g 0 128 f:=by
 rcases h.row with ⟨e,_⟩ | ⟨g',e,_,hr⟩
 ·cases e
 ·injection e with e
  injection e with e
  subst e
  exact hr
theorem row_range{w:World}{g:Nat}{f:Nat→Int}(h:Row w g 0 128 f):w.rangeAt g 0 (Dk.bl f):=fun j v hv=>by
 have hj:j < 128:=by
  have:=(List.getElem?_eq_some_iff.1 hv).1
  rwa [Dk.bL] at this
 rw[h.cell hj]
 rw[Dk.bl_get f hj] at hv
 exact hv
end Rm
namespace Rm
open Go.RowKit Dk Byt
attribute [local go_sem] zv29
attribute [local go_sem] zc29
def Kp(w:World):Prop:=(∀k,k < 64→w.cell? ⟨0,k,none⟩=some (.int .u32 (Sha.kT k)))∧0 < w.heap.size
theorem Kp.below{w w':World}(h:Kp w)(hb:Below w.heap.size w w'):Kp w':=⟨fun k hk=>(hb.cell (p:=⟨0,k,none⟩) h.2).trans (h.1 k hk),Nat.lt_of_lt_of_le h.2 hb.size⟩
theorem Kp.grown{w w':World}{g:Nat}(h:Kp w)(hg:w.grownBy w' (some g))(h0:g≠0):Kp w':=⟨fun k hk=>(World.cell?_of_block (hg.block 0 h.2 (by simpa using fun e=>h0 e.symm))).trans (h.1 k hk),Nat.lt_of_lt_of_le h.2 hg.size⟩
theorem row_splice{w':World}{g:Nat}{f h:Nat→Int}{cur:Array Value}{ty:TypeId}(hz:∀j,j < 128→cur[0+j]?=some (.int .u8 (f j)))(hw:w'.heap[g]?=some (.cells (splice cur.toList 96 ((List.range 32).map fun j=>Value.int .u8 (h j))).toArray ty (0,0))) :
  Row w' g 0 128 (mix f 96 32 h):=by
 refine⟨⟨_,⟨_,hw⟩,fun j hj=>?_⟩⟩
 have hlen:128≤cur.size:=by
  have:=(Array.getElem?_eq_some_iff.1 (hz 127 (by omega))).1
  omega
 rw[Nat.zero_add,List.getElem?_toArray]
 unfold splice
 by_cases h1:j < 96
 ·rw[List.getElem?_append_left (by simp; omega),List.getElem?_take,if_pos h1,mix_out (by omega)]
  have:=hz j hj
  rw[Nat.zero_add] at this
  simpa using this
 ·rw[List.getElem?_append_right (by simp; omega),List.getElem?_append_left (by simp; omega),mix_in (by omega) (by omega)]
  have:j - (cur.toList.take 96).length=j - 96:=by simp; omega
  rw[this]
  simp[show j - 96 < 32 by omega]
theorem row_set{w:World}{f:Nat→Int}{t:TypeId}{j:Nat}{z:Int}:Row (w.alloc (.cells ((bl f).set j (.int .u8 z)).toArray t)) w.heap.size 0 128 (put f j z):=
 ⟨⟨_,⟨_,heap_alloc_new _ _⟩,fun i hi=>by
  rw[Nat.zero_add,List.getElem?_toArray]
  unfold put
  by_cases e:i=j
  ·subst e
   rw[if_pos rfl,List.getElem?_set_self (by rw[bL]; exact hi)]
  ·rw[if_neg e,List.getElem?_set_ne (fun h=>e h.symm),bl_get f hi]⟩⟩
theorem u8_size:(Tryz.prog.info? 5).map (·.size)=some 1:=by kernel_rfl
theorem bs_one(q:Nat→Int):∀v ∈ (List.range 32).map fun j=>Value.int .u8 (q j),v.oneCell'=true:=by
 intro v hv
 simp only[List.mem_map] at hv
 obtain⟨j,_,rfl⟩:=hv
 rfl
theorem results_pt{tmps:Array Value}{w:World}{B:Nat}{D:Nat→Int}{e:Int}{fn:Func}(hf:fn.results=#[.cell 4 47,.tmp 5])(h4:tmps.getD 4 undef=.pointer (some ⟨B,0,none⟩))(h5:tmps.getD 5 undef=.int .i64 e)
  (kV:w.heap[B]?=some (.cells (bl D).toArray 47 (0,0))):(results fn tmps).run Tryz.prog w=.ok (.tuple #[.agg (bl D).toArray,.int .i64 e]) w:=by
 have h4':tmps[4]?.getD undef=.pointer (some ⟨B,0,none⟩):=by simpa using h4
 have h5':tmps[5]?.getD undef=.int .i64 e:=by simpa using h5
 have hv:=run_loadVar_row (P:=Tryz.prog) w B 47 47 (bl D).toArray (0,0) _ kV und29 rfl (size_bl' D)
 simp[results,hf,h4',h5',asAddr,hv]
theorem sha_lies{w:World}{g B:Nat}{f:Nat→Int}(hr:Row w g 0 128 f)(hB:g < B):Sha.Lies w B (some ⟨g,0,none⟩) 128 (tab 96 f):=
 ⟨by simp,(fun e=>by cases e),fun _=>⟨g,0,rfl,hB,fun i hi=>by
  rw[tab_length] at hi
  rw[hr.cell (by omega),tab_getD 96 f hi]⟩⟩
theorem put_any(s gen:Int)(n:Nat)(F T:Nat→Int)(pa:Option Addr)(cap g:Nat)(w:World)(hl:Lay w w.heap.size g pa n cap 2 (prV F T))(hn:n≤140737488355328)(hF:∀i,i < n→i64 (F i)∧i64 (T i))(hk:Kp w) :
  Calls Tryz.prog 91 #[.agg #[.int .i64 gen,.slice pa n cap],.int .i64 s] w fun e w'=>e=.returned (.tuple #[.agg (bl (putV s gen n F T)).toArray,.int .i64 (putEr s gen n F T)])∧Below w.heap.size w w':=by
 have HL:=Lib.hid hl
 have HF:=Lib.hid hF
 have HK:=Lib.hid hk
 have HRI:=Lib.hid (fun W hl=>right_any s gen n F T pa cap g W hl hn hF)
 have HPR:=Lib.hid (@right_parts s gen n F T)
 have HV:Hid (putV s gen n F T=if rightB s gen n F T then sealD (tabD gen n F T) else fun _=>0):=Lib.hid rfl
 have HE:Hid (putEr s gen n F T=if rightB s gen n F T then 0 else 1):=Lib.hid rfl
 clear hl hF hk
 generalize putV s gen n F T=V at HV ⊢
 generalize putEr s gen n F T=E at HE ⊢
 generalize rightB s gen n F T=R at HRI HPR HV HE
 go_enter Tryz.func91,Tryz.ntmps91
 go_wp2_with fail
 generalize hW:(w.alloc (.cells #[.int .i64 gen,.slice pa n cap] 37)).alloc (.cells (bl fun _=>0).toArray 47)=W
 have hB0:Below w.heap.size w W:=by rw[←hW]; exact((Below.refl _ _).alloc (Nat.le_refl _) _).alloc (by simp) _
 have hx0:W.heap[w.heap.size]?=some (.cells #[.int .i64 gen,.slice pa n cap] 37 (0,0)):=by rw[←hW]; exact(Below.heap_alloc _ _ _ (by simp)).trans (heap_alloc_new w _)
 have hr0:W.heap[w.heap.size+1]?=some (.cells (bl fun _=>0).toArray 47 (0,0)):=by
  rw[←hW]
  have:=heap_alloc_new (w.alloc (.cells #[.int .i64 gen,.slice pa n cap] 37)) (.cells (bl fun _=>0).toArray 47)
  rwa [World.size_alloc] at this
 have hs0:W.heap.size=w.heap.size+2:=by rw[←hW]; simp
 clear hW
 refine(HRI.out W ((HL.out.below hB0).more (by omega))).mono ?_
 rintro _ w1 ⟨rfl,hB1⟩
 have hx1:=(hB1.block w.heap.size (by omega)).trans hx0
 have hr1:=(hB1.block (w.heap.size+1) (by omega)).trans hr0
 have hs1:=hB1.size
 have hB:Below w.heap.size w w1:=hB0.trans (hB1.mono (by omega))
 clear hB0 hB1 hx0 hr0
 dsimp only
 cases R with
 | false=>
  have HV2:Hid (V=fun _=>0):=Lib.hid HV.out
  have HE2:Hid (E=1):=Lib.hid HE.out
  clear HV HE HPR HRI
  go_wp2_with (first
   | (refine wpList_buildTo rfl 47 #[] rfl _ rfl (bl fun _=>0).toArray built29 ?_; simp only[Act.put,aA])
   | (refine wpList_store_row rfl 47 (.tmp 4) (.tmp 15) rfl (w.heap.size+1) (bl fun _=>0).toArray rfl rfl 47 _ hr1 (size_bl' _) rfl (bl_all _) ?_; simp only[Act.put]))
  have hr2:=setRow_heap w1 (w.heap.size+1) _ (bl fun _=>0).toArray 47 (0,0) hr1
  refine bodyPost_ret (results_pt rfl rfl rfl hr2) rfl ?_
  exact⟨by rw[HV2.out,HE2.out],hB.trans ⟨rfl,rfl,rfl,by simp,fun k hk=>setRow_other w1 _ k _ (by omega)⟩⟩
 | true=>
  obtain⟨_,hg0,hg1,hn20,_⟩:=HPR.out rfl
  have HV2:Hid (V=sealD (tabD gen n F T)):=Lib.hid HV.out
  have HE2:Hid (E=0):=Lib.hid HE.out
  clear HV HE HPR HRI
  have c0:w1.cell? ⟨w.heap.size,0,none⟩=some (.int .i64 gen):=by rw[cell_of_row _ _ _ _ _ _ hx1]; rfl
  have c1:w1.cell? ⟨w.heap.size,1,none⟩=some (.slice pa n cap):=by rw[cell_of_row _ _ _ _ _ _ hx1]; rfl
  go_wp2_with fail
  generalize hW2:w1.alloc (.cells ((bl fun _=>0).set 0 (.int .u8 109)).toArray 47)=W2
  have hR2:Row W2 w1.heap.size 0 128 (put (fun _=>0) 0 109):=by rw[←hW2]; exact row_set
  have hb2:Below w1.heap.size w1 W2:=by rw[←hW2]; exact(Below.refl _ _).alloc (Nat.le_refl _) _
  have hs2:W2.heap.size=w1.heap.size+1:=by rw[←hW2]; simp
  clear hW2
  have hd2:Below w1.heap.size w1 W2.drew:=hb2.trans ⟨rfl,rfl,rfl,Nat.le_refl _,fun _ _=>rfl⟩
  have HO2:Hid (Wd.Own W2.drew w1.heap.size (some ⟨w1.heap.size,0,none⟩) 128 128 (put (fun _=>0) 0 109)):=Lib.hid ((own_block hR2 (Nat.le_refl _)).same rfl)
  have d0:W2.cell? ⟨w.heap.size,0,none⟩=some (.int .i64 gen):=(hb2.cell (p:=⟨w.heap.size,0,none⟩) (show w.heap.size < w1.heap.size by omega)).trans c0
  have e0:W2.cell? ⟨w.heap.size,1,none⟩=some (.slice pa n cap):=(hb2.cell (p:=⟨w.heap.size,1,none⟩) (show w.heap.size < w1.heap.size by omega)).trans c1
  have HKE:=Lib.hid (fun(w3:World) (hG:Wd.Only W2.drew w3 (some ⟨w1.heap.size,0,none⟩))=>show w3.cell? ⟨w.heap.size,0,none⟩=some (.int .i64 gen) from(World.cell?_of_block (a:=⟨w.heap.size,0,none⟩) (hG.block w.heap.size (by show w.heap.size < W2.heap.size; omega) (by simp; omega))).trans d0)
  have HKE1:=Lib.hid (fun(w3:World) (hG:Wd.Only W2.drew w3 (some ⟨w1.heap.size,0,none⟩))=>show w3.cell? ⟨w.heap.size,1,none⟩=some (.slice pa n cap) from(World.cell?_of_block (a:=⟨w.heap.size,1,none⟩) (hG.block w.heap.size (by show w.heap.size < W2.heap.size; omega) (by simp; omega))).trans e0)
  clear c0 c1 hb2 e0
  go_region_held3 (fun w'=>w'.cell? ⟨w.heap.size,0,none⟩=some (.int .i64 gen))
   (first
    | exact d0
    | exact HKE.out w3 hG3)
   (first
    | ((go_at_call 118; refine(Wd.put_any _ w1.heap.size (some ⟨w1.heap.size,0,none⟩) 128 128 (put (fun _=>0) 0 109) _ _ _ (by exact HO2.out) (by omega)).mono ?_; rintro _ w3 ⟨rfl,hG3,hO3⟩)))
  have e1:=HKE1.out w3 hG3
  have hR3:=own_row hO3
  have hd3:Below w1.heap.size w1 w3:=HO2.out.under hd2 hG3 (by show w1.heap.size≤W2.heap.size; omega)
  have c9:w3.cell? ⟨w1.heap.size,9,none⟩=some (.int .u8 (Wd.putF 128 1 8 gen (put (fun _=>0) 0 109) 9)):=by
   have:=hR3.cell (j:=9) (by omega)
   rwa [Nat.zero_add] at this
  have f9:=hR3.free 9
  have hwr:IntKind.u8.wrap (n:Int)=n:=by rw[IntKind.wrap_u8]; omega
  clear HKE HKE1 HO2 hG3 d0 hO3 hR2
  go_wp2_with fail
  generalize hW4:w3.setCell ⟨w1.heap.size,9,none⟩ (.int .u8 n)=W4
  have hR4:Row W4 w1.heap.size 0 128 (head gen n):=by rw[←hW4]; exact hR3.store 9 n
  have hd4:Below w1.heap.size w1 W4:=by rw[←hW4]; exact hd3.setCell (Nat.le_refl _) _
  clear hW4 hR3 hd3 c9 f9 hwr e1
  have HI:Hid (Row W4 w1.heap.size 0 128 (pairsD F T (head gen n) 0)∧Below w1.heap.size w1 W4):=Lib.hid ⟨hR4,hd4⟩
  clear hR4 hd4 hd2
  go_loopw [29] (fun i wr=>∃j:Nat,j≤n∧i=.int .i64 j∧Hid (Row wr w1.heap.size 0 128 (pairsD F T (head gen n) j)∧Below w1.heap.size w1 wr)) (fun i _=>n - (intOf i).toNat)
  case atStart=>exact⟨0,by omega,rfl,HI⟩
  case round=>
   clear HI
   obtain⟨j,hj,rfl,hR⟩:=hrel
   have hBw:Below w.heap.size w wr:=hB.trans (hR.out.2.mono (by omega))
   have hrl:=hR.out.1.lt
   by_cases hlt:j < n
   ·obtain⟨b,off,rfl,hbl,_,hrow⟩:=(HL.out.below hBw).rows.resolve_left (by omega)
    obtain⟨dF,dT⟩:=pr_cells hrow hlt
    have hj0:(0:Int)≤(j:Int):=by omega
    have hjn:(j:Int) < (n:Int):=by omega
    have hj20:(j:Int)≤20:=by omega
    clear hrow
    go_wp2_with (refine wpList_store_row rfl 110 (.tmp 8) (.tmp 33) rfl wr.heap.size #[.int .i64 (F j),.int .i64 (T j)] rfl rfl 110 _ (heap_alloc_new wr _) (by kernel_rfl) rfl (pair_one _ _) ?_; rw[World.setRow_alloc_new]; simp only[Act.put])
    generalize hW5:wr.alloc (.cells #[.int .i64 (F j),.int .i64 (T j)] 110)=W5
    have hb5:Below wr.heap.size wr W5:=by rw[←hW5]; exact(Below.refl _ _).alloc (Nat.le_refl _) _
    have hx5:W5.heap[wr.heap.size]?=some (.cells #[.int .i64 (F j),.int .i64 (T j)] 110 (0,0)):=by rw[←hW5]; exact heap_alloc_new _ _
    have hs5:W5.heap.size=wr.heap.size+1:=by rw[←hW5]; simp
    clear hW5 dF dT
    have c0:W5.cell? ⟨wr.heap.size,0,none⟩=some (.int .i64 (F j)):=by rw[cell_of_row _ _ _ _ _ _ hx5]; rfl
    have c1:W5.cell? ⟨wr.heap.size,1,none⟩=some (.int .i64 (T j)):=by rw[cell_of_row _ _ _ _ _ _ hx5]; rfl
    have HO5:Hid (Wd.Own W5.drew w1.heap.size (some ⟨w1.heap.size,0,none⟩) 128 128 (pairsD F T (head gen n) j)):=Lib.hid ((own_block (hR.out.1.block (hb5.block _ hrl)) (Nat.le_refl _)).same rfl)
    have hb5':Below wr.heap.size wr W5.drew:=hb5.trans ⟨rfl,rfl,rfl,Nat.le_refl _,fun _ _=>rfl⟩
    have hd5:Below w1.heap.size w1 W5.drew:=hR.out.2.trans (hb5'.mono (Nat.le_of_lt hrl))
    have HKE:=Lib.hid (fun(u v:World) (hu:wr.heap.size < u.heap.size) (hG:Wd.Only u v (some ⟨w1.heap.size,0,none⟩)) (k:Nat)=>World.cell?_of_block (a:=⟨wr.heap.size,k,none⟩) (hG.block wr.heap.size hu (by simp; omega)))
    have hu5:wr.heap.size < W5.drew.heap.size:=by show wr.heap.size < W5.heap.size; omega
    clear hb5 hb5' hx5 hR
    go_region_held3 (fun w'=>w'.cell? ⟨wr.heap.size,0,none⟩=some (.int .i64 (F j)))
     (first
      | exact c0
      | exact(HKE.out _ w6 hu5 hG6 0).trans c0)
     (first
      | ((go_at_call 118; refine(Wd.put_any _ w1.heap.size (some ⟨w1.heap.size,0,none⟩) 128 128 (pairsD F T (head gen n) j) _ _ _ (by exact HO5.out) (by omega)).mono ?_; rintro _ w6 ⟨rfl,hG6,hO6⟩)))
    have c1':w6.cell? ⟨wr.heap.size,1,none⟩=some (.int .i64 (T j)):=(HKE.out _ w6 hu5 hG6 1).trans c1
    have hd6:Below w1.heap.size w1 w6:=HO5.out.under hd5 hG6 (by show w1.heap.size≤W5.heap.size; omega)
    have hu6:wr.heap.size < w6.drew.heap.size:=Nat.lt_of_lt_of_le hu5 hG6.size
    have hd6':Below w1.heap.size w1 w6.drew:=hd6.trans ⟨rfl,rfl,rfl,Nat.le_refl _,fun _ _=>rfl⟩
    have HO6:=Lib.hid (hO6.same (w':=w6.drew) rfl)
    clear c0 c1 HO5 hG6 hd5 hO6
    go_wp2_with fail
    have hsum:IntKind.i64.wrap (10+4 * (j:Int)+2)=12+4 * j:=by rw[IntWalk.i64_in _ (by omega)]; omega
    go_region_held3 (fun w'=>w'.cell? ⟨wr.heap.size,1,none⟩=some (.int .i64 (T j)))
     (first
      | exact c1'
      | exact(HKE.out _ w7 hu6 hG7 1).trans c1')
     (first
      | ((go_at_call 118; refine(Wd.put_any _ w1.heap.size (some ⟨w1.heap.size,0,none⟩) 128 128 (Wd.putF 128 (10+4 * (j:Int)) 2 (F j) (pairsD F T (head gen n) j)) _ _ _ (by exact HO6.out) (by omega)).mono ?_; rintro _ w7 ⟨rfl,hG7,hO7⟩)))
    have hd7:Below w1.heap.size w1 w7:=HO6.out.under hd6' hG7 (by have:=hd6'.size; omega)
    have HN:Hid (Row w7 w1.heap.size 0 128 (pairsD F T (head gen n) (j+1))∧Below w1.heap.size w1 w7):=Lib.hid ⟨own_row hO7,hd7⟩
    clear hd7 hO7 hG7 HO6 c1' hd6 hd6' hsum
    go_wp2_with fail
    go_roundw
    case rel=>exact⟨j+1,by omega,by go_num,HN⟩
    case measure=>simp[intOf]; omega
   ·obtain rfl:j=n:=by omega
    have hD:tabD gen j F T=pairsD F T (head gen j) j:=rfl
    have hby:=tab_bytes gen F T hn20
    obtain⟨hR5,hd5⟩:=hR.out
    rw[←hD] at hR5
    have HS:Hid (sealD (tabD gen j F T)=mix (tabD gen j F T) 96 32 (Sha.sumB (Sha.sumS (tab 96 (tabD gen j F T))))):=Lib.hid rfl
    generalize tabD gen j F T=D at hR5 hby HS HV2
    have hKw:=HK.out.below hBw
    have HSUM:=Lib.hid (Sha.sum_any 96 (some ⟨w1.heap.size,0,none⟩) 128 (tab 96 D) wr (by simp) (sha_lies hR5 hrl) (byte_tab fun i hi=>hby i (by omega)) (by omega) hKw.1 hKw.2)
    clear hD hby hR hKw
    generalize Sha.sumB (Sha.sumS (tab 96 D))=q at HS HSUM
    go_wp2_with fail
    refine HSUM.out.mono ?_
    rintro _ w8 ⟨rfl,hb8⟩
    clear HSUM
    have hR8:=hR5.block (hb8.block _ hrl)
    have hd8:Below w1.heap.size w1 w8:=hd5.trans (hb8.mono (Nat.le_of_lt hrl))
    have hl8:w1.heap.size < w8.heap.size:=Nat.lt_of_lt_of_le hrl hb8.size
    clear hR5 hd5 hb8
    dsimp only
    go_wp2_with (refine wpList_store_row rfl 22 (.tmp 10) (.tmp 50) rfl w8.heap.size (Sha.arr 32 (Sha.vu8 q)) rfl rfl 22 _ (heap_alloc_new _ _) Sha.info32 (by rw[Sha.arr_size]; rfl) (Sha.arr_one8 _ _) ?_; rw[World.setRow_alloc_new]; simp only[Act.put])
    generalize hW9:w8.alloc (.cells (Sha.arr 32 (Sha.vu8 q)) 22)=W9
    have hx9:W9.heap[w8.heap.size]?=some (.cells (Sha.arr 32 (Sha.vu8 q)) 22 (0,0)):=by rw[←hW9]; exact heap_alloc_new _ _
    have hb9:Below w8.heap.size w8 W9:=by rw[←hW9]; exact(Below.refl _ _).alloc (Nat.le_refl _) _
    clear hW9
    obtain⟨cur,⟨ty,hc⟩,hz⟩:=(hR8.block (hb9.block _ hl8)).cur
    have hd9:Below w1.heap.size w1 W9.drew:=(hd8.trans (hb9.mono (Nat.le_of_lt hl8))).trans ⟨rfl,rfl,rfl,Nat.le_refl _,fun _ _=>rfl⟩
    have hlen:128≤cur.size:=by
     have:=(Array.getElem?_eq_some_iff.1 (hz 127 (by omega))).1
     omega
    have HSRC:=Lib.hid (fun j v (hv:((List.range 32).map fun j=>Value.int .u8 (q j))[j]?=some v)=>show W9.drew.cell? ((⟨w8.heap.size,0,none⟩:Addr).add j)=some v from by
     have hj:j < 32:=by
      have:=(List.getElem?_eq_some_iff.1 hv).1
      simpa using this
     rw[Addr.add_mid,Nat.zero_add,cell_of_row _ _ _ _ _ _ (show W9.drew.heap[w8.heap.size]?=_ from hx9),Sha.arr_get _ hj]
     simpa[hj,Sha.vu8] using hv)
    have HCU:Hid (W9.drew.heap[w1.heap.size]?=some (.cells cur.toList.toArray ty (0,0))):=Lib.hid (by show W9.heap[w1.heap.size]?=_; simpa using hc)
    have HZ:=Lib.hid hz
    have HLN:Hid (96+((List.range 32).map fun j=>Value.int .u8 (q j)).length≤cur.toList.length):=Lib.hid (by simp; omega)
    clear hR8 hx9 hc hz hb9 hlen
    go_region_law
     ((refine step_copy_splice rfl (.tmp 51) (.tmp 52) 39 39 (by rfl) 5 bytes_slice u8_size (some ⟨w1.heap.size,96,none⟩) (some ⟨w8.heap.size,0,none⟩) 32 32 32 32 (by rfl) (by rfl) w1.heap.size 96 cur.toList ty (by exact HCU.out) ((List.range 32).map fun j=>Value.int .u8 (q j)) (by simp) (fun _=>⟨rfl,_,rfl,HSRC.out⟩) HLN.out (bs_one q) w1.heap.size w1 (by exact hd9) (Nat.le_refl _) ?_; intro w9 HG9 hB9))
    all_goals
     have hRn:Row w9 w1.heap.size 0 128 (mix D 96 32 q):=row_splice HZ.out HG9.out
     have hrg:=row_range hRn
     have hr9:=(hB9.block (w.heap.size+1) (by omega)).trans hr1
     have hBn:Below w.heap.size w w9:=hB.trans (hB9.mono (by omega))
     generalize mix D 96 32 q=Z at HS hRn hrg
     clear HG9 hRn HZ HCU HLN HSRC
     go_wp2_with (first
      | (refine wpList_load_mid rfl 47 (.tmp 6) rfl w1.heap.size 0 rfl (bl Z) _ (by exact hrg) und29 rfl (sB _) ?_; simp only[Act.put,aA])
      | (refine wpList_store_row rfl 47 (.tmp 4) (.tmp 54) rfl (w.heap.size+1) (bl Z).toArray rfl rfl 47 _ hr9 (size_bl' _) rfl (bl_all _) ?_; simp only[Act.put]))
     have hr10:=setRow_heap w9 (w.heap.size+1) _ (bl Z).toArray 47 (0,0) hr9
     refine bodyPost_ret (results_pt rfl rfl rfl hr10) rfl ?_
     exact⟨by rw[HV2.out,HE2.out,HS.out],hBn.trans ⟨rfl,rfl,rfl,by simp,fun k hk=>setRow_other w9 _ k _ (by omega)⟩⟩
end Rm
end Go.Proofs.YteaocagepfgfnaaGreatDoor
