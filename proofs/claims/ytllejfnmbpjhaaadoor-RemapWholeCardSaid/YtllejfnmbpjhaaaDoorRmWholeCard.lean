/- RemapWhole: a tied card (made by tools/gen_tied.py). -/
import Derived.Test.YtllejfnmbpjhaaaDoorRmWhole
import Derived.Test.YtllejfnmbpjhaaaDoorRmOpen
import Derived.Test.YtllejfnmbpjhaaaDoorShaRow
import Derived.Test.YtllejfnmbpjhaaaDoorRmOpen2
import Derived.Test.YtllejfnmbpjhaaaDoorRmOpen3
namespace Go.Proofs.YtllejfnmbpjhaaaDoor.remapwholeC
set_option maxRecDepth 20000
open Go.ChangeShapes Go.WideShapes Go.ChangeAt Go.RowKit DLaw

theorem contract (H : Type) (enc : TypeId × Value → H) (W : World) (base : Nat) (args : Array Value) (ds gs : List (DataW H)) (before : List MemPlace) (ts2 : List TypeId)
    (hval : ∀ (j : Nat) t v, Tryd.f7.params[j]? = some t → args[j]? = some v → Value.okWide Tryd.prog W .any base t v)
    (hW : DataW.Whole enc Tryd.prog Tryd.f7.params.toList Rows.remapWholeSpec.vars false W args.toList ds gs before)
    (hsz : (DataW.weightsEach Tryd.prog (Tryd.f7.params.toList ++ ts2) (ds ++ gs)).all (· ≤ reachBytes) = true) (hK : ∀ k, k < 64 → W.cell? ⟨0, k, none⟩ = some (.int .u32 (Sha.kT k))) :
    Calls Tryd.prog 7 args W fun e W' => ∃ v, e = .returned v ∧ Rows.remapWholeSpec.post enc Tryd.prog Tryd.f7 false true false false W args v W' := by
  have KP : Rm.Kp W := ⟨hK, World.block_lt_of_cell? W _ (hK 0 (by omega))⟩
  have hW' := hW
  obtain ⟨p, q, hA0, hV, rfl, hfz, hnd⟩ := hW
  have hA : DataW.TrodAll enc Tryd.prog W 0 (fun _ => true) true Tryd.f7.params.toList args.toList ds p := hA0
  rw [Tryd.params7] at hA hval hsz
  obtain ⟨v0, vs0, d0, ds0, p0, q0, hargs, rfl, rfl, h0, r0⟩ := trodAll_cons hA
  obtain ⟨v1, vs1, d1, ds1, p1, q1, rfl, rfl, rfl, h1, r1⟩ := trodAll_cons r0
  obtain ⟨v2, vs2, d2, ds2, p2, q2, rfl, rfl, rfl, h2, r2⟩ := trodAll_cons r1
  obtain ⟨rfl, rfl, rfl⟩ := trodAll_nil r2
  obtain rfl : args = #[v0, v1, v2] := by cases args; simp_all
  have hlt : ∀ x ∈ p0 ++ (p1 ++ (p2 ++ [])), x.block < W.heap.size := fun x hx => by simpa using hW'.lt x (by simp only [List.mem_append] at hx ⊢; exact .inl hx)
  obtain ⟨sa0, n0, sc0, ca0, m0, cc0, S0, C0, f0, dn0, rfl, ls0, lc0, nb0, mb0, hf0, hS0, hC0⟩ := open_disk_b hsz (j := 0) rfl rfl (hval 0 35 v0 rfl rfl) h0 (fun x hx => hlt x (by simp [hx]))
  obtain ⟨x1, D1, rfl, lo1, hi1⟩ := open_lay (hval 1 44 v1 rfl rfl) h1
  obtain ⟨z2, ka2, kn2, kc2, kf2, rfl, ks2, kk2, hz2⟩ := open_fall hsz (j := 2) rfl rfl (hval 2 52 v2 rfl rfl) h2 (fun x hx => hlt x (by simp [hx]))
  exact law_post rfl (by kernel_rfl) (by rw [Tryd.params7]; decide +kernel) rfl hW' (Rm.lwhole_any sa0 ca0 n0 sc0 m0 cc0 S0 C0 f0 dn0 x1 D1 z2 ka2 kn2 kc2 kf2 W nb0 mb0 hf0 ls0 lc0 ks2 kk2 hz2 (fun i _ => hS0 i) (fun i _ => hC0 i) KP)

noncomputable def wargs : Array Value := #[.agg #[.slice none 0 0, .slice none 0 0, .int .i64 0, .bool false], .agg (Dk.wrV ⟨0, fun _ => 0⟩).toArray, .agg #[.int .i64 0, .slice none 0 0]]
theorem laid_met (os : Os) : laidMet Tryd.prog Rows.remapWholeRow.laid ((Sha.laidWorld os).forCall (fun _ _ => 0) ⟨#[], wargs, []⟩).memory :=
  laidMet_of_run' 8 (by kernel_rfl) (by kernel_rfl)
theorem reads (os : Os) {H : Type} (enc : TypeId × Value → H) : ∃ places, DataW.whole enc Tryd.prog ((Sha.laidWorld os).forCall (fun _ _ => 0) ⟨#[], wargs, []⟩).memory Tryd.f7.params.toList Rows.remapWholeSpec.vars false wargs.toList 8 = some ([.agg [.nil, .nil, .lit (.int .i64 0), .lit (.bool false)], .agg [.lit (.int .i64 0), .agg (List.replicate 128 (.lit (.int .u8 0)))], .agg [.lit (.int .i64 0), .nil]], [], places) :=
  ⟨[], by kernel_rfl⟩

set_option maxRecDepth 100000 in
theorem lifted (os : Os) (started : os.Started) (H : Type) (enc : TypeId × Value → H) (F : Stop.Interp) :
    ReturnsInHanded {} Tryd.checked os 7 .any ((OpenSpec.ofChange Rows.remapWholeSpec).preRow enc Tryd.prog Tryd.f7 Rows.remapWholeRow.domain false Rows.remapWholeRow.laid) (((OpenSpec.ofChange Rows.remapWholeSpec).at F).post enc Tryd.prog Tryd.f7 false true false false) := by
  obtain ⟨places, hx⟩ := reads os enc
  refine returnsInHanded_of_row (C := Tryd.checked) (s := OpenSpec.ofChange Rows.remapWholeSpec) Sha.own started (by kernel_rfl) Tryd.func7
    (witness_row_at (enc := enc) (C := Tryd.checked) false (Sha.laidWorld os) wargs rfl (by kernel_rfl) (by kernel_rfl) (by kernel_rfl)
      (OpenSpec.preRow_of_cond 8 hx (by kernel_rfl) (fun k hk => by cases hk) (by kernel_rfl) (laid_met os))) ?_
  intro W base args ds gs before hval hW _ _ hsz hL _ _
  exact contract H enc W base args ds gs before _ hval hW hsz (Sha.table hL)

theorem said : Rows.RemapWholeSaid :=
  OpenClaim.holds_of_cond 7 Tryd.f7 rfl rfl rfl rfl rfl rfl rfl ⟨rfl, rfl, rfl, rfl, rfl⟩ rfl rfl rfl rfl rfl (by kernel_rfl) Tryd.func7 (by kernel_rfl)
    (of_decide_eq_true (by kernel_rfl)) (by unfold Func.isWrapper; first | (rw [if_pos (by decide +kernel)]; kernel_rfl) | (rw [if_neg (by decide +kernel)]; exact ⟨rfl, rfl⟩))
    (fun os started H enc _ F => by rw [OpenClaim.pre_eq_preRow]; exact lifted os started H enc F)

theorem plain (f : FuncId) (fn : Func) (hf : Tryd.pinned.checked.prog.funcNamed "lazaret/lazaretlaw04.RemapWhole" = some f) (hfn : Tryd.pinned.checked.prog.funcs[f]? = some fn) :
    false = Tryd.pinned.checked.prog.looks [] ∧ ∀ (j : Nat) t, fn.params[j]? = some t → Tryd.pinned.checked.prog.wantsStandIn t = false := by
  obtain rfl : f = 7 := Option.some.inj ((show Tryd.prog.funcNamed "lazaret/lazaretlaw04.RemapWhole" = some 7 by kernel_rfl).symm.trans hf) |>.symm
  obtain rfl : fn = Tryd.f7 := (Option.some.inj (Tryd.func7.symm.trans hfn)).symm
  refine ⟨by kernel_rfl, fun j t ht => ?_⟩
  rw [Tryd.params7] at ht
  have hall : ∀ t ∈ ([35, 44, 52] : List TypeId), Tryd.prog.wantsStandIn t = false := by decide +kernel
  exact hall t (by simpa using Array.mem_of_getElem? ht)

theorem card : Rows.RemapWholeCardSaid :=
  Claim7.holds_tied_plain_at .later [] _ _ _ _ said (fun _ h => by cases h) (by kernel_rfl) (fun _ h => by cases h) remapWhole_row_tie rfl ⟨rfl, rfl⟩ (by kernel_rfl) rfl plain (by kernel_rfl)

end Go.Proofs.YtllejfnmbpjhaaaDoor.remapwholeC
