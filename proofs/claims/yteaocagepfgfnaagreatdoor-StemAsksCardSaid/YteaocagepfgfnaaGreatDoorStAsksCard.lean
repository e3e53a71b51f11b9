import Derived.Test.YteaocagepfgfnaaGreatDoorPStDq
import Derived.Test.YteaocagepfgfnaaGreatDoorPStA
import Derived.Test.YteaocagepfgfnaaGreatDoorPJSh
set_option maxRecDepth 100000
set_option maxHeartbeats 8000000
/- StemAsks: a tied card (made by tools/gen_tied.py). -/
namespace Go.Proofs.YteaocagepfgfnaaGreatDoor.stemasksC
open Go.ChangeShapes Go.WideShapes Go.ChangeAt Go.RowKit Law VLaw
theorem contract(H:Type)(enc:TypeId × Value→H)(W:World)(base:Nat)(args:Array Value)(ds gs:List (DataW H))(before:List MemPlace)(ts2:List TypeId)
  (hval:∀(j:Nat) t v,Tryz.f3.params[j]?=some t→args[j]?=some v→Value.okWide Tryz.prog W .any base t v)
  (hW:DataW.Whole enc Tryz.prog Tryz.f3.params.toList Rows.stemAsksSpec.vars false W args.toList ds gs before)
  (hsz:(DataW.weightsEach Tryz.prog (Tryz.f3.params.toList ++ ts2) (ds ++ gs)).all (·≤reachBytes)=true) (hK:∀k,k < 64→W.cell? ⟨0,k,none⟩=some (.int .u32 (Sha.kT k))) :
  Calls Tryz.prog 3 args W fun e W'=>∃v,e=.returned v∧Rows.stemAsksSpec.post enc Tryz.prog Tryz.f3 false true false false W args v W':=by
 have KP:Rm.Kp W:=⟨hK,World.block_lt_of_cell? W _ (hK 0 (by omega))⟩
 have hW':=hW
 obtain⟨p,q,hA0,hV,rfl,hfz,hnd⟩:=hW
 have hA:DataW.TrodAll enc Tryz.prog W 0 (fun _=>true) true Tryz.f3.params.toList args.toList ds p:=hA0
 rw[Tryz.params3] at hA hval hsz
 obtain⟨v0,vs0,d0,ds0,p0,q0,hargs,rfl,rfl,h0,r0⟩:=trodAll_cons hA
 obtain⟨v1,vs1,d1,ds1,p1,q1,rfl,rfl,rfl,h1,r1⟩:=trodAll_cons r0
 obtain⟨v2,vs2,d2,ds2,p2,q2,rfl,rfl,rfl,h2,r2⟩:=trodAll_cons r1
 obtain⟨rfl,rfl,rfl⟩:=trodAll_nil r2
 obtain rfl:args=#[v0,v1,v2]:=by cases args; simp_all
 have hlt:∀x ∈ p0 ++ (p1 ++ (p2 ++ [])),x.block < W.heap.size:=fun x hx=>by simpa using hW'.lt x (by simp only[List.mem_append] at hx ⊢; exact .inl hx)
 obtain⟨p0,s0,c0,rfl,hp0,hs0,hc0⟩:=open_stem (hval 0 26 v0 rfl rfl) h0
 obtain⟨z1,rfl,lo1,hi1⟩:=open_num (hval 1 3 v1 rfl rfl) h1
 obtain⟨z2,rfl,lo2,hi2⟩:=open_num (hval 2 3 v2 rfl rfl) h2
 exact law_post rfl (by kernel_rfl) (by rw[Tryz.params3]; decide +kernel) rfl hW' (St.stemasks_any p0 s0 c0 z1 z2 W KP ⟨lo1,hi1⟩ ⟨lo2,hi2⟩)
noncomputable def wargs:Array Value:=#[.agg (St.sV Pt.pz 0 0).toArray,.int .i64 0,.int .i64 0]
theorem laid_met(os:Os):laidMet Tryz.prog Rows.stemAsksRow.laid ((Sha.laidWorld os).forCall (fun _ _=>0) ⟨#[],wargs,[]⟩).memory:=
 laidMet_of_run' 8 (by kernel_rfl) (by kernel_rfl)
theorem reads(os:Os){H:Type}(enc:TypeId × Value→H):∃places,DataW.whole enc Tryz.prog ((Sha.laidWorld os).forCall (fun _ _=>0) ⟨#[],wargs,[]⟩).memory Tryz.f3.params.toList Rows.stemAsksSpec.vars false wargs.toList 8=some ([.agg [.agg [.lit (.int .i64 0),.lit (.int .i64 0),.agg (List.replicate 32 (.lit (.int .u8 0)))],.lit (.int .i64 0),.lit (.int .i64 0)],.lit (.int .i64 0),.lit (.int .i64 0)],[],places):=
 ⟨[],by kernel_rfl⟩
theorem lifted(os:Os)(started:os.Started)(H:Type)(enc:TypeId × Value→H)(F:Stop.Interp) :
  ReturnsInHanded {} Tryz.checked os 3 .any ((OpenSpec.ofChange Rows.stemAsksSpec).preRow enc Tryz.prog Tryz.f3 Rows.stemAsksRow.domain false Rows.stemAsksRow.laid) (((OpenSpec.ofChange Rows.stemAsksSpec).at F).post enc Tryz.prog Tryz.f3 false true false false):=by
 obtain⟨places,hx⟩:=reads os enc
 refine returnsInHanded_of_row (C:=Tryz.checked) (s:=OpenSpec.ofChange Rows.stemAsksSpec) Sha.own started (by kernel_rfl) Tryz.func3
  (witness_row_at (enc:=enc) (C:=Tryz.checked) false (Sha.laidWorld os) wargs rfl (by kernel_rfl) (by kernel_rfl) (by kernel_rfl)
   (OpenSpec.preRow_of_cond 8 hx (by kernel_rfl) (fun k hk=>by cases hk) (by kernel_rfl) (laid_met os))) ?_
 intro W base args ds gs before hval hW _ _ hsz hL _ _
 exact contract H enc W base args ds gs before _ hval hW hsz (Sha.table hL)
theorem said:Rows.StemAsksSaid:=
 OpenClaim.holds_of_cond 3 Tryz.f3 rfl rfl rfl rfl rfl rfl rfl ⟨rfl,rfl,rfl,rfl,rfl⟩ rfl rfl rfl rfl rfl (by kernel_rfl) Tryz.func3 (by kernel_rfl)
  (of_decide_eq_true (by kernel_rfl)) (by unfold Func.isWrapper; first | (rw[if_pos (by decide +kernel)]; kernel_rfl) | (rw[if_neg (by decide +kernel)]; exact⟨rfl,rfl⟩))
  (fun os started H enc _ F=>by rw[OpenClaim.pre_eq_preRow]; exact lifted os started H enc F)
theorem plain (f : FuncId) (fn : Func) (hf : Tryz.pinned.checked.prog.funcNamed "lazaret/lazaretlaw10.StemAsks" = some f) (hfn : Tryz.pinned.checked.prog.funcs[f]? = some fn) :
  false=Tryz.pinned.checked.prog.looks []∧∀(j:Nat) t,fn.params[j]?=some t→Tryz.pinned.checked.prog.wantsStandIn t=false:=by
 obtain rfl : f = 3 := Option.some.inj ((show Tryz.prog.funcNamed "lazaret/lazaretlaw10.StemAsks" = some 3 by kernel_rfl).symm.trans hf) |>.symm
 obtain rfl:fn=Tryz.f3:=(Option.some.inj (Tryz.func3.symm.trans hfn)).symm
 refine⟨by kernel_rfl,fun j t ht=>?_⟩
 rw[Tryz.params3] at ht
 have hall:∀t ∈ ([26,3,3]:List TypeId),Tryz.prog.wantsStandIn t=false:=by decide +kernel
 exact hall t (by simpa using Array.mem_of_getElem? ht)
theorem card:Rows.StemAsksCardSaid:=
 Claim7.holds_tied_plain_at .later [] _ _ _ _ said (fun _ h=>by cases h) (by kernel_rfl) (fun _ h=>by cases h) stemAsks_row_tie rfl ⟨rfl,rfl⟩ (by kernel_rfl) rfl plain (by kernel_rfl)
end Go.Proofs.YteaocagepfgfnaaGreatDoor.stemasksC
