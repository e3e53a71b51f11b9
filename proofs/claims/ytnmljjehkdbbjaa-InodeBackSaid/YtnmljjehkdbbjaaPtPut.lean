/- ptr: within, putSide, Put. -/
import Derived.Test.YtnmljjehkdbbjaaPtSum
import Derived.Laws.CopyOwn
import Derived.IntWalk
import Derived.Deep.RegionHeld3
namespace Go.Proofs.Ytnmljjehkdbbjaa
set_option maxRecDepth 20000
namespace Pt
open Go.RowKit Dk Eqb Byt

def withinB (n : Nat) (a : Int) : Bool := decide (0 ≤ a) && decide (a ≤ (n : Int) - 40)
theorem within_iff {n : Nat} {a : Int} : withinB n a = true ↔ 0 ≤ a ∧ a ≤ (n : Int) - 40 := by simp [withinB]
theorem within_any (ao : Option Addr) (n cap : Nat) (a : Int) (w : World) (hn : n ≤ 140737488355328) :
    Calls Try.prog 39 #[.slice ao n cap, .int .i64 a] w fun e w' => e = .returned (.bool (withinB n a)) ∧ w = w' := by
  by_cases h0 : 0 ≤ a
  · rw [show withinB n a = decide (a ≤ (n : Int) - 40) by simp [withinB, h0]]
    go_enter Try.func39, Try.ntmps39
    go_wp2_with fail
    go_ret
    exact ⟨rfl, rfl⟩
  · rw [show withinB n a = false by simp [withinB, h0]]
    go_enter Try.func39, Try.ntmps39
    go_wp2_with fail
    go_ret
    exact ⟨rfl, rfl⟩
/-- None's number -/
def noneN : Int := 4294967295
def side (z : Int) : Int := if z = -1 then noneN else z
theorem side_none : side (-1) = 4294967295 := rfl
theorem side_other {z : Int} (h : z ≠ -1) : side z = z := if_neg h

theorem putside_any (w : World) (B : Nat) (ao : Option Addr) (n cap : Nat) (f : Nat → Int) (a z : Int) (h : Wd.Own w B ao n cap f) (hn : n ≤ 140737488355328) :
    Calls Try.prog 40 #[.slice ao n cap, .int .i64 a, .int .i64 z] w fun e w' => e = .returned (.tuple #[]) ∧ Wd.Only w w' ao ∧ Wd.Own w' B ao n cap (Wd.putF n a 4 (side z) f) := by
  by_cases e : z = -1
  · subst e
    have HP := Lib.hid (Wd.put_any w B ao n cap f a 4 4294967295 h hn)
    clear h
    go_enter Try.func40, Try.ntmps40
    go_wp2_with fail
    refine HP.out.mono ?_
    rintro _ w1 ⟨rfl, hG, hO⟩
    dsimp only
    go_wp2_with fail
    go_returns
    exact ⟨rfl, hG, by rw [side_none]; exact hO⟩
  · have e' : (z == -1) = false := by simpa using e
    have HS := Lib.hid (side_other e)
    have HP := Lib.hid (Wd.put_any w B ao n cap f a 4 z h hn)
    clear h e
    go_enter Try.func40, Try.ntmps40
    go_wp2_with fail
    refine HP.out.mono ?_
    rintro _ w1 ⟨rfl, hG, hO⟩
    dsimp only
    go_wp2_with fail
    go_returns
    exact ⟨rfl, hG, by rw [HS.out]; exact hO⟩

theorem row_splice {w' : World} {g n off k : Nat} {f q : Nat → Int} {cur : Array Value} {ty : TypeId} (hz : ∀ j, j < n → cur[0 + j]? = some (.int .u8 (f j))) (hfit : off + k ≤ n) (hw : w'.heap[g]? = some (.cells (splice cur.toList off ((List.range k).map fun j => Value.int .u8 (q j))).toArray ty (0, 0))) :
    Row w' g 0 n (mix f off k q) := by
  refine ⟨⟨_, ⟨_, hw⟩, fun j hj => ?_⟩⟩
  have hlen : n ≤ cur.size := by
    have := (Array.getElem?_eq_some_iff.1 (hz (n - 1) (by omega))).1
    omega
  rw [Nat.zero_add, List.getElem?_toArray]
  unfold splice
  by_cases h1 : j < off
  · rw [List.getElem?_append_left (by simp; omega), List.getElem?_take, if_pos h1, mix_out (by omega)]
    have := hz j hj
    rw [Nat.zero_add] at this
    simpa using this
  · have e0 : (cur.toList.take off).length = off := by simp; omega
    rw [List.getElem?_append_right (by omega), e0]
    by_cases h2 : j < off + k
    · rw [List.getElem?_append_left (by simp; omega), mix_in (by omega) (by omega)]
      simp [show j - off < k by omega]
    · rw [List.getElem?_append_right (by simp; omega), mix_out (by omega), List.getElem?_drop]
      have := hz j hj
      rw [Nat.zero_add] at this
      have e1 : off + ((List.range k).map fun j => Value.int .u8 (q j)).length + (j - off - ((List.range k).map fun j => Value.int .u8 (q j)).length) = j := by simp; omega
      rw [e1]
      simpa using this
theorem qs_one (q : Nat → Int) (k : Nat) : ∀ v ∈ (List.range k).map fun j => Value.int .u8 (q j), v.oneCell' = true := by
  intro v hv
  simp only [List.mem_map] at hv
  obtain ⟨j, _, rfl⟩ := hv
  rfl
/-- b[x:], b at a row's head, x short of its room -/
theorem run_cut (g n cap e : Nat) (x : Int) (hx : x = (e : Int)) (he : e ≤ n) (hc : e < cap) (_hn : n ≤ cap) (W : World) :
    (Instr.sliceAt 48 (.slice (some ⟨g, 0, none⟩) n cap) (some (.int .i64 x)) none none).run Try.prog W = .ok (.slice (some ⟨g, e, none⟩) (n - e) (cap - e)) W := by
  subst hx
  rw [run_sliceAt_slice W 48 _ _ _ _ Sha.under_elem, run_slice_l W 48 (some ⟨g, 0, none⟩) n cap Sha.under_elem .i64 (e : Int) (by omega) (by omega), Sha.size_elem]
  simp only [Result.andThen, sliced, Int.toNat_natCast]
  rw [if_neg (by omega)]
  simp [Addr.add_mid]
theorem u8_size : (Try.prog.info? 5).map (·.size) = some 1 := by kernel_rfl
/-- copy into a row of bytes, as one step of a region that draws its order -/
theorem step_copy_row {ops : Array Oper} {o : Oper} {a : Act} {w : World} {K : Act → World → Prop} {Q : Exit → Act → World → Prop} {E : Prop} (hgd : o.guard = none) (d s : Operand)
    (ho : o.op = .call { callee := .builtin .copy, args := #[d, s], argTypes := #[48, 48] }) (g off dLen dCap : Nat) (ad : Addr) (sLen sCap : Nat) (hd : a.eval d = .slice (some ⟨g, off, none⟩) dLen dCap) (hs : a.eval s = .slice (some ad) sLen sCap)
    (n : Nat) (f q : Nat → Int) (hr : Row w g 0 n f) (k : Nat) (hk : k = Nat.min sLen dLen) (hsrc : ∀ j, j < k → w.cell? (ad.add j) = some (.int .u8 (q j))) (hfit : off + k ≤ n) (hn0 : 0 < n)
    (h : ∀ w', Hid (Row w' g 0 n (mix f off k q)) → w.grownBy w' (some g) → K (a.put o.dst (goInt k)) w') :
    if Region.wanted o (yielded ops a.tmps) = true then Oper.wp Try.prog o a w K Q else E := by
  have hw : Region.wanted o (yielded ops a.tmps) = true := by simp [Region.wanted, hgd]
  rw [if_pos hw]
  obtain ⟨cur, ⟨ty, hc⟩, hz⟩ := hr.cur
  have hlen : n ≤ cur.size := by
    have := (Array.getElem?_eq_some_iff.1 (hz (n - 1) (by omega))).1
    omega
  have hcl : ((List.range k).map fun j => Value.int .u8 (q j)).length = k := by simp
  have hrun := run_copy_row (P := Try.prog) w 48 48 o.type 5 g off dLen dCap ad sLen sCap cur ty ((List.range k).map fun j => Value.int .u8 (q j)) bytes_slice u8_size hc (by rw [hcl]; exact hk) (fun j v hv => by
    have hj : j < k := by
      have := (List.getElem?_eq_some_iff.1 hv).1
      rwa [hcl] at this
    rw [hsrc j hj]
    simpa [hj] using hv) (by rw [hcl]; omega) (qs_one q k)
  unfold Oper.wp
  simp only [hcl] at hrun
  simp [execOp, ho, resolve, invoke, builtin, hd, hs, hrun, Result.andThen]
  refine h _ (row_splice hz hfit (ty := ty) ?_) ⟨rfl, rfl, rfl, by simp [World.setRow], fun k _ hr => setRow_other w g k _ (by simpa using fun e => hr (by rw [e]))⟩
  have := setRow_heap w g cur (cur.toList.take off ++ ((List.range k).map (fun j => Value.int .u8 (q j)) ++ cur.toList.drop (off + k))).toArray ty (0, 0) hc
  rw [this]
  unfold splice
  rw [hcl]
def ppG (n : Nat) (a : Int) (p : Pn) : Bool := rightB p && withinB n a
def ppF (n : Nat) (a : Int) (p : Pn) (f : Nat → Int) : Nat → Int := if ppG n a p then mix (Wd.putF n (a + 4) 4 (side p.B) (Wd.putF n a 4 (side p.A) f)) (a + 8).toNat 32 p.S else f
def ppE (n : Nat) (a : Int) (p : Pn) : Int := if ppG n a p then 0 else 1
/-- what a call of Put comes to -/
def PpPost (w : World) (B : Nat) (ao : Option Addr) (n cap : Nat) (a : Int) (p : Pn) (f : Nat → Int) (e : Ending) (w' : World) : Prop :=
  e = .returned (.int .i64 (ppE n a p)) ∧ Wd.Only w w' ao ∧ Wd.Own w' B ao n cap (ppF n a p f)
theorem pp_no {n : Nat} {a : Int} {p : Pn} (h : ppG n a p = false) (f : Nat → Int) : ppF n a p f = f ∧ ppE n a p = 1 := by
  unfold ppF ppE
  rw [h]
  exact ⟨rfl, rfl⟩
theorem pp_yes {n a : Nat} {p : Pn} (h : ppG n a p = true) (f : Nat → Int) : ppF n a p f = mix (Wd.putF n ((a : Int) + 4) 4 (side p.B) (Wd.putF n a 4 (side p.A) f)) (a + 8) 32 p.S ∧ ppE n a p = 0 := by
  unfold ppF ppE
  rw [h]
  exact ⟨rfl, rfl⟩
theorem only_below {w w' : World} {ao : Option Addr} (h : Below w.heap.size w w') : Wd.Only w w' ao := ⟨h.os, h.tape, h.output, h.size, fun k hk _ => h.block k hk⟩
theorem Only.trans' {w w1 w2 : World} {ao : Option Addr} (h : Wd.Only w w1 ao) (k : Wd.Only w1 w2 ao) : Wd.Only w w2 ao :=
  ⟨k.os.trans h.os, k.tape.trans h.tape, k.output.trans h.output, Nat.le_trans h.size k.size, fun i hi hr => (k.block i (by have := h.size; omega) hr).trans (h.block i hi hr)⟩

set_option maxRecDepth 100000 in
set_option maxHeartbeats 1000000 in
theorem put_any (w : World) (B : Nat) (ao : Option Addr) (n cap : Nat) (f : Nat → Int) (a : Int) (p : Pn) (h : Wd.Own w B ao n cap f) (hn : n ≤ 140737488355328) :
    Calls Try.prog 31 #[.slice ao n cap, .int .i64 a, .agg (pV p).toArray] w (PpPost w B ao n cap a p f) := by
  obtain ⟨W, hW, hb0, hx0, hs0⟩ : ∃ W, W = w.alloc (.cells (pV p).toArray 24) ∧ Below w.heap.size w W ∧ W.heap[w.heap.size]? = some (.cells (pV p).toArray 24 (0, 0)) ∧ W.heap.size = w.heap.size + 1 := ⟨_, rfl, box_pt w p⟩
  have hO0 : Wd.Own W B ao n cap f := h.below hb0
  have HR := Lib.hid (fun W => right_any p W)
  have HW := Lib.hid (fun W => within_any ao n cap a W hn)
  cases hr : rightB p with
  | false =>
    obtain ⟨e1, e2⟩ := pp_no (n := n) (a := a) (p := p) (show ppG n a p = false by unfold ppG; rw [hr]; rfl) f
    have HE := Lib.hid e1
    have HE2 := Lib.hid e2
    rw [hr] at HR
    clear e1 e2 hr HW
    go_enter Try.func31, Try.ntmps31
    subst hW
    go_wp2_with (refine @wpList_loadG _ _ _ _ _ _ _ (by kernel_rfl) 24 (.tmp 5) rfl w.heap.size 0 rfl (pV p) _ (row_pt hx0) undP rfl (sizeP p) ?_; simp only [Act.put, List.setIfInBounds_toArray, List.set_cons_succ, List.set_cons_zero])
    generalize w.alloc (.cells (pV p).toArray 24) = W at hb0 hx0 hs0 hO0 ⊢
    refine (HR.out W).mono ?_
    rintro _ w1 ⟨rfl, hb1⟩
    dsimp only
    go_wp2_with fail
    go_ret
    exact ⟨by rw [HE2.out]; rfl, only_below (hb0.trans (hb1.mono (by omega))), by rw [HE.out]; exact hO0.below hb1⟩
  | true =>
    cases hw : withinB n a with
    | false =>
      obtain ⟨e1, e2⟩ := pp_no (n := n) (a := a) (p := p) (show ppG n a p = false by unfold ppG; rw [hr, hw]; rfl) f
      have HE := Lib.hid e1
      have HE2 := Lib.hid e2
      rw [hr] at HR
      rw [hw] at HW
      clear e1 e2 hr hw
      go_enter Try.func31, Try.ntmps31
      subst hW
      go_wp2_with (refine @wpList_loadG _ _ _ _ _ _ _ (by kernel_rfl) 24 (.tmp 5) rfl w.heap.size 0 rfl (pV p) _ (row_pt hx0) undP rfl (sizeP p) ?_; simp only [Act.put, List.setIfInBounds_toArray, List.set_cons_succ, List.set_cons_zero])
      generalize w.alloc (.cells (pV p).toArray 24) = W at hb0 hx0 hs0 hO0 ⊢
      refine (HR.out W).mono ?_
      rintro _ w1 ⟨rfl, hb1⟩
      dsimp only
      go_wp2_with fail
      refine (HW.out w1).mono ?_
      rintro _ w2 ⟨rfl, rfl⟩
      dsimp only
      go_wp2_with fail
      go_ret
      exact ⟨by rw [HE2.out]; rfl, only_below (hb0.trans (hb1.mono (by omega))), by rw [HE.out]; exact hO0.below hb1⟩
    | true =>
      obtain ⟨h0, h1⟩ := within_iff.1 hw
      obtain ⟨a', rfl⟩ : ∃ m : Nat, a = m := ⟨a.toNat, by omega⟩
      obtain ⟨e1, e2⟩ := pp_yes (n := n) (a := a') (p := p) (show ppG n a' p = true by unfold ppG; rw [hr, hw]; rfl) f
      have HE := Lib.hid e1
      have HE2 := Lib.hid e2
      rw [hr] at HR
      rw [hw] at HW
      obtain ⟨g, rfl, hBg, hrow⟩ := h.row.resolve_left (by rintro ⟨_, h0⟩; omega)
      have hgl := hrow.lt
      have hcap := h.room
      clear e1 e2 hr hw hrow h
      go_enter Try.func31, Try.ntmps31
      subst hW
      go_wp2_with (refine @wpList_loadG _ _ _ _ _ _ _ (by kernel_rfl) 24 (.tmp 5) rfl w.heap.size 0 rfl (pV p) _ (row_pt hx0) undP rfl (sizeP p) ?_; simp only [Act.put, List.setIfInBounds_toArray, List.set_cons_succ, List.set_cons_zero])
      generalize w.alloc (.cells (pV p).toArray 24) = W at hb0 hx0 hs0 hO0 ⊢
      refine (HR.out W).mono ?_
      rintro _ w1 ⟨rfl, hb1⟩
      have hx1 := (hb1.block w.heap.size (by omega)).trans hx0
      have hB1 := hb0.trans (hb1.mono (by omega))
      have hs1 := hb1.size
      have hO1 := hO0.below hb1
      clear hx0 hO0 hb1
      dsimp only
      go_wp2_with fail
      refine (HW.out w1).mono ?_
      rintro _ w2 ⟨rfl, rfl⟩
      have HO1 := Lib.hid hO1
      have cA := cA_pt hx1
      clear hO1
      dsimp only
      go_wp2_with fail
      refine (putside_any w1 B (some ⟨g, 0, none⟩) n cap f a' p.A HO1.out hn).mono ?_
      rintro _ w3 ⟨rfl, hG3, hO3⟩
      have hx3 := (hG3.block w.heap.size (by omega) (by simp; omega)).trans hx1
      have hs3 := hG3.size
      have HO3 := Lib.hid hO3
      have HG3 := Lib.hid (Only.trans' (only_below hB1) hG3)
      have cB := cB_pt hx3
      clear cA hx1 hG3 hO3 HO1
      dsimp only
      go_wp2_with fail
      refine (putside_any w3 B (some ⟨g, 0, none⟩) n cap _ _ p.B HO3.out hn).mono ?_
      rintro _ w4 ⟨rfl, hG4, hO4⟩
      have hx4 := (hG4.block w.heap.size (by omega) (by simp; omega)).trans hx3
      have hs4 := hG4.size
      have HO4 := Lib.hid hO4
      have HG4 := Lib.hid (Only.trans' HG3.out hG4)
      have HS4 := Lib.hid (fun j (hj : j < 32) => cS_pt hx4 hj)
      clear cB hx3 hx4 hG4 hO4 HO3 HG3
      dsimp only
      go_wp2_with fail
      have hrow4 : Row w4.drew g 0 n (Wd.putF n ((a' : Int) + 4) 4 (side p.B) (Wd.putF n a' 4 (side p.A) f)) := by
        rcases HO4.out.row with ⟨e, _⟩ | ⟨g', e, _, hr⟩
        · cases e
        · injection e with e
          injection e with e
          subst e
          exact hr.block rfl
      have HR4 := Lib.hid hrow4
      have hsl : IntKind.i64.wrap ((a' : Int) + 8) = (a' : Int) + 8 := IntWalk.i64_in _ (by omega)
      have hcut := fun W => run_cut g n cap (a' + 8) ((a' : Int) + 8) (by omega) (by omega) (by omega) hcap W
      clear hrow4 HO4
      go_region_law
        ((refine step_copy_row rfl (.tmp 31) (.tmp 33) (by rfl) g (a' + 8) _ _ ⟨w.heap.size, 2, none⟩ 32 32 (by rfl) (by rfl) n _ p.S (by exact HR4.out) 32 (by show 32 = min 32 _; omega) (fun j hj => by rw [Addr.add_mid]; exact HS4.out j hj) (by omega) (by omega) ?_; intro w5 HR5 hG5))
      all_goals
        go_wp2_with fail
        go_ret
        refine ⟨by rw [HE2.out]; rfl, Only.trans' HG4.out (Only.trans' (w1 := w4.drew) (only_below ⟨rfl, rfl, rfl, Nat.le_refl _, fun _ _ => rfl⟩) hG5), ?_⟩
        rw [HE.out]
        exact ⟨hcap, (fun e => by cases e), .inr ⟨g, rfl, hBg, HR5.out⟩⟩
end Pt
end Go.Proofs.Ytnmljjehkdbbjaa
