/- space: a pointer's sectors, in numbers; what stands there asked by a closure. -/
import Derived.Test.YtdbmdocmnhgbpaaSpRTk
import Derived.Test.YtdbmdocmnhgbpaaPtRight
namespace Go.Proofs.Ytdbmdocmnhgbpaa
set_option maxRecDepth 20000
namespace Sp
open Go.RowKit Dk Eqb Byt

/-- a sector's place, if there is one -/
def pla (A B Z x : Int) : List Int := if x = -1 then [] else [plI A B Z x]
def sec1 (x : Int) : List Int := if x = -1 then [] else [x]
def okB (A B Z x : Int) : Bool := x == -1 || decide (0 ≤ plI A B Z x)
def pls (A B Z : Int) (p : Pt.Pn) : List Int := pla A B Z p.A ++ pla A B Z p.B
def secs (p : Pt.Pn) : List Int := sec1 p.A ++ sec1 p.B
/-- is the pointer right, and of the space -/
def plB (A B Z : Int) (p : Pt.Pn) : Bool := Pt.rightB p && (okB A B Z p.A && okB A B Z p.B)
def plL (A B Z : Int) (p : Pt.Pn) (i : Nat) : Nat := ((pls A B Z p).getD i 0).toNat
theorem pla_map (A B Z x : Int) : pla A B Z x = (sec1 x).map (plI A B Z) := by
  unfold pla sec1
  split <;> rfl
theorem pls_map (A B Z : Int) (p : Pt.Pn) : pls A B Z p = (secs p).map (plI A B Z) := by
  unfold pls secs
  rw [List.map_append, pla_map, pla_map]
theorem pls_len (A B Z : Int) (p : Pt.Pn) : (pls A B Z p).length ≤ 2 := by
  unfold pls pla
  split <;> split <;> simp
theorem secs_len (p : Pt.Pn) : (secs p).length ≤ 2 := by
  unfold secs sec1
  split <;> split <;> simp
theorem pla_mem {A B Z x y : Int} (h : y ∈ pla A B Z x) : x ≠ -1 ∧ y = plI A B Z x := by
  unfold pla at h
  split at h
  · cases h
  · exact ⟨by assumption, by simpa using h⟩
theorem pls_ok {A B Z : Int} {p : Pt.Pn} (h : plB A B Z p = true) : ∀ y, y ∈ pls A B Z p → 0 ≤ y := by
  intro y hy
  simp only [plB, Bool.and_eq_true] at h
  unfold pls at hy
  rw [List.mem_append] at hy
  rcases hy with hy | hy
  · obtain ⟨h1, rfl⟩ := pla_mem hy
    simpa [okB, h1] using h.2.1
  · obtain ⟨h1, rfl⟩ := pla_mem hy
    simpa [okB, h1] using h.2.2
theorem pls_lt {A B Z : Int} {p : Pt.Pn} (ha : Ap A B Z) : ∀ y, y ∈ pls A B Z p → y < 2 * Z := by
  intro y hy
  unfold pls at hy
  rw [List.mem_append] at hy
  rcases hy with hy | hy
  · obtain ⟨_, rfl⟩ := pla_mem hy
    exact plI_lt ha
  · obtain ⟨_, rfl⟩ := pla_mem hy
    exact plI_lt ha
/-- two sectors stand in two places -/
theorem plI_inj {A B Z x y : Int} (ha : Ap A B Z) (hx : 0 ≤ plI A B Z x) (h : plI A B Z x = plI A B Z y) : x = y := by
  obtain ⟨h1, h2, h3, h4, h5⟩ := ha
  unfold plI at hx h
  split at h
  · split at h
    · omega
    · split at h <;> omega
  · split at h
    · split at h
      · omega
      · split at h <;> omega
    · rename_i h6 h7
      rw [if_neg h6, if_neg h7] at hx
      omega
theorem right_ne {p : Pt.Pn} (h : Pt.rightB p = true) (hA : p.A ≠ -1) : p.B ≠ p.A := by
  have hh : Pt.isHole p = false := by
    cases e : Pt.isHole p with
    | false => rfl
    | true =>
      have := (Pt.eqP_iff.1 e).1
      exact absurd this hA
  simp only [Pt.rightB, hh, Bool.false_or, Bool.and_eq_true, Bool.or_eq_true, beq_iff_eq, bne_iff_ne] at h
  rcases h.2 with h2 | h2
  · rw [h2]; exact Ne.symm hA
  · exact h2.2
/-- the two places of a pointer are two -/
theorem plL_ne {A B Z : Int} {p : Pt.Pn} (ha : Ap A B Z) (h : plB A B Z p = true) (h2 : (pls A B Z p).length = 2) : plL A B Z p 1 ≠ plL A B Z p 0 := by
  have hok := pls_ok h
  simp only [plB, Bool.and_eq_true] at h
  by_cases hA : p.A = -1
  · exfalso
    unfold pls pla at h2
    rw [if_pos hA] at h2
    split at h2 <;> simp at h2
  by_cases hB : p.B = -1
  · exfalso
    unfold pls pla at h2
    rw [if_neg hA, if_pos hB] at h2
    simp at h2
  have e : pls A B Z p = [plI A B Z p.A, plI A B Z p.B] := by
    unfold pls pla
    rw [if_neg hA, if_neg hB]; rfl
  rw [e] at hok
  have k1 := hok (plI A B Z p.A) (by simp)
  have k2 := hok (plI A B Z p.B) (by simp)
  have hne := right_ne h.1 hA
  unfold plL
  rw [e]
  simp only [List.getD_cons_succ, List.getD_cons_zero]
  intro he
  exact hne (plI_inj ha k2 (by omega))
theorem plL_lt {A B Z : Int} {n : Nat} {p : Pt.Pn} (ha : Ap A B Z) (hn : (n : Int) = 2 * Z) (h : plB A B Z p = true) : ∀ i, i < (pls A B Z p).length → plL A B Z p i < n ∧ (pls A B Z p).getD i 0 = (plL A B Z p i : Int) := by
  intro i hi
  have hm : (pls A B Z p).getD i 0 ∈ pls A B Z p := by
    rw [List.getD_eq_getElem?_getD, List.getElem?_eq_getElem hi]
    exact List.getElem_mem hi
  have h0 := pls_ok h _ hm
  have h1 := pls_lt ha _ hm
  unfold plL
  omega
/-- all sectors of it -/
def anyP (A B Z : Int) (p : Pt.Pn) (T : Nat → Bool) : Bool := (pls A B Z p).any fun x => T x.toNat

/-- turns that say the same where they come -/
theorem bec_same {N N' : Nat → Int} {L : Nat → Nat} {f : Nat → Int} : ∀ {m : Nat}, (∀ k, k < m → N (bec N L f k (L k)).toNat = N' (bec N L f k (L k)).toNat) → bec N L f m = bec N' L f m
  | 0, _ => rfl
  | m + 1, h => by
    have ih := bec_same (N := N) (N' := N') (L := L) (f := f) (m := m) fun k hk => h k (by omega)
    rw [bec, bec, ← ih, h m (by omega)]
/-- what stood there when its turn comes -/
theorem bec_at {N : Nat → Int} {L : Nat → Nat} {f : Nat → Int} {m : Nat} (hm : m ≤ 2) (hne : m = 2 → L 1 ≠ L 0) : ∀ k, k < m → bec N L f k (L k) = f (L k) := by
  intro k hk
  obtain rfl | rfl : k = 0 ∨ k = 1 := by omega
  · rfl
  · rw [bec, bec]
    unfold put
    rw [if_neg (hne (by omega))]

def drB (A B Z : Int) (n : Nat) (f : Nat → Int) (p : Pt.Pn) : Bool := formB A B Z n f && (plB A B Z p && !anyP A B Z p fun i => !us (f i))
def drE (A B Z : Int) (n : Nat) (f : Nat → Int) (p : Pt.Pn) : Int := if drB A B Z n f p then 0 else 1
def drN : Nat → Int := nx 0 3 4 0 0
def drF (A B Z : Int) (n : Nat) (f : Nat → Int) (p : Pt.Pn) : Nat → Int := if drB A B Z n f p then bec drN (plL A B Z p) f (pls A B Z p).length else f
def mkO (A B Z : Int) (n : Nat) (f : Nat → Int) (p : Pt.Pn) : Bool := formB A B Z n f && plB A B Z p
def mkB (A B Z : Int) (n : Nat) (f : Nat → Int) (p : Pt.Pn) : Bool := mkO A B Z n f p && !anyP A B Z p fun i => !(f i == 0)
def mkE (A B Z : Int) (n : Nat) (f : Nat → Int) (p : Pt.Pn) : Int := if mkO A B Z n f p then (if anyP A B Z p fun i => !(f i == 0) then 18 else 0) else 1
def mkN : Nat → Int := nx 1 0 0 0 0
def mkF (A B Z : Int) (n : Nat) (f : Nat → Int) (p : Pt.Pn) : Nat → Int := if mkB A B Z n f p then bec mkN (plL A B Z p) f (pls A B Z p).length else f
theorem dr_bd : ∀ k, k < 5 → 0 ≤ drN k ∧ drN k ≤ 4 := nx_bd (by omega)
theorem mk_bd : ∀ k, k < 5 → 0 ≤ mkN k ∧ mkN k ≤ 4 := nx_bd (by omega)

/-- the closures -/
theorem idle_any (q g b off n cap i : Nat) (A B Z : Int) (f : Nat → Int) (w : World) (hq : w.cell? ⟨q, 0, none⟩ = some (.pointer (some ⟨g, 0, none⟩))) (hx : Bs w g A B Z (some ⟨b, off, none⟩) n cap) (hi : i < n) (hc : w.cell? ⟨b, off + i, none⟩ = some (.int .u8 (f i))) :
    Calls Try.prog 45 #[.int .i64 i, .pointer (some ⟨q, 0, none⟩)] w fun e w' => e = .returned (.bool (!us (f i))) ∧ w = w' := by
  have c3 := hx.c3
  have HU := Lib.hid (used_any (f i) w)
  have hi0 : (0 : Int) ≤ (i : Int) := by omega
  have hin : (i : Int) < (n : Int) := by omega
  generalize f i = v at hc HU
  generalize us v = u at HU
  go_enter Try.func45, Try.ntmps45
  go_wp2_with fail
  refine HU.out.mono ?_
  rintro _ w2 ⟨rfl, rfl⟩
  dsimp only
  go_wp2_with fail
  go_ret
  exact ⟨rfl, rfl⟩
theorem free_any (q g b off n cap i : Nat) (A B Z : Int) (f : Nat → Int) (w : World) (hq : w.cell? ⟨q, 0, none⟩ = some (.pointer (some ⟨g, 0, none⟩))) (hx : Bs w g A B Z (some ⟨b, off, none⟩) n cap) (hi : i < n) (hc : w.cell? ⟨b, off + i, none⟩ = some (.int .u8 (f i))) :
    Calls Try.prog 49 #[.int .i64 i, .pointer (some ⟨q, 0, none⟩)] w fun e w' => e = .returned (.bool (!(f i == 0))) ∧ w = w' := by
  have c3 := hx.c3
  have hi0 : (0 : Int) ≤ (i : Int) := by omega
  have hin : (i : Int) < (n : Int) := by omega
  generalize f i = v at hc ⊢
  go_enter Try.func49, Try.ntmps49
  go_wp2_with fail
  go_ret
  exact ⟨rfl, rfl⟩
theorem any_take {xs : List Int} {T : Int → Bool} {j : Nat} (h : (xs.take j).any T = false) (hj : j < xs.length) (hT : T (xs.getD j 0) = false) : (xs.take (j + 1)).any T = false := by
  rw [List.take_add_one, List.any_append, h, Bool.false_or]
  rw [List.getElem?_eq_getElem hj]
  rw [List.getD_eq_getElem?_getD, List.getElem?_eq_getElem hj] at hT
  simpa using hT
theorem any_here {xs : List Int} {T : Int → Bool} {j : Nat} (hj : j < xs.length) (hT : T (xs.getD j 0) = true) : xs.any T = true := by
  rw [List.getD_eq_getElem?_getD, List.getElem?_eq_getElem hj] at hT
  exact List.any_eq_true.2 ⟨_, List.getElem_mem hj, by simpa using hT⟩

set_option maxHeartbeats 1000000 in
/-- IndexFunc, ContainsFunc with that closure -/
theorem index_idle (q : Nat) (v : Value) (xs : List Int) (T : Int → Bool) (base : Nat) (w : World) (hv : OwnI w base v xs) (hlen : xs.length ≤ 1099511627776) (hT : ∀ j, j < xs.length → Calls Try.prog 45 #[.int .i64 (xs.getD j 0), .pointer (some ⟨q, 0, none⟩)] w fun e w' => e = .returned (.bool (T (xs.getD j 0))) ∧ w = w') :
    Calls Try.prog 54 #[v, .func (.func 45) #[] #[.pointer (some ⟨q, 0, none⟩)]] w fun e w' => ∃ k : Int, e = .returned (.int .i64 k) ∧ decide (0 ≤ k) = xs.any T ∧ w = w' := by
  have HT := Lib.hid hT
  clear hT
  rcases hv.slice with ⟨rfl, rfl⟩ | ⟨b, cap, rfl, _, _, hc⟩
  · clear HT hv hlen
    go_enter Try.func54, Try.ntmps54
    go_wp2_with fail
    go_loop [8] (fun i => i = .int .i64 0) (fun _ => 0)
    case atStart => rfl
    case round =>
      obtain rfl := hrel
      go_wp2_with fail
      go_ret
      exact ⟨-1, rfl, by simp, rfl⟩
  · have HC := Lib.hid hc
    clear hc hv
    obtain ⟨m, hm⟩ : ∃ m, m = xs.length := ⟨_, rfl⟩
    have HM := Lib.hid hm
    rw [← hm]
    have hmb : m ≤ 1099511627776 := by omega
    clear hm hlen
    go_enter Try.func54, Try.ntmps54
    go_wp2_with fail
    go_loop [8] (fun i => ∃ j : Nat, j ≤ m ∧ i = .int .i64 j ∧ Hid ((xs.take j).any T = false)) (fun i => m - (intOf i).toNat)
    case atStart => exact ⟨0, by omega, rfl, Lib.hid rfl⟩
    case round =>
      obtain ⟨j, hj, rfl, hR⟩ := hrel
      by_cases hlt : j < m
      · have hcj := HC.out j (by have := HM.out; omega)
        have hj0 : (0 : Int) ≤ (j : Int) := by omega
        have hjn : (j : Int) < (m : Int) := by omega
        have HTj := Lib.hid (HT.out j (by have := HM.out; omega))
        have HY := Lib.hid (fun h => any_here (T := T) (show j < xs.length by have := HM.out; omega) h)
        have HO := Lib.hid (fun h => any_take hR.out (show j < xs.length by have := HM.out; omega) h)
        generalize xs.getD j 0 = x at hcj HTj HY HO
        go_wp2_with fail
        refine HTj.out.mono ?_
        rintro _ w2 ⟨rfl, rfl⟩
        dsimp only
        cases hu : T x with
        | true =>
          have HV := Lib.hid (HY.out hu)
          clear HY HO hu
          go_wp2_with fail
          go_ret
          exact ⟨(j : Int), rfl, by rw [HV.out]; exact decide_eq_true (by omega), rfl⟩
        | false =>
          have HV := Lib.hid (HO.out hu)
          clear HY HO hu
          go_wp2_with fail
          go_round
          case rel => exact ⟨j + 1, by omega, by go_num, HV⟩
          case measure => simp [intOf]; omega
      · obtain rfl : j = m := by omega
        have HV : Hid (xs.any T = false) := Lib.hid (by have := hR.out; rwa [HM.out, List.take_length] at this)
        clear hR
        go_wp2_with fail
        go_ret
        exact ⟨-1, rfl, by rw [HV.out]; rfl, rfl⟩
theorem contains_idle (q : Nat) (v : Value) (xs : List Int) (T : Int → Bool) (base : Nat) (w : World) (hv : OwnI w base v xs) (hlen : xs.length ≤ 1099511627776) (hT : ∀ j, j < xs.length → Calls Try.prog 45 #[.int .i64 (xs.getD j 0), .pointer (some ⟨q, 0, none⟩)] w fun e w' => e = .returned (.bool (T (xs.getD j 0))) ∧ w = w') :
    Calls Try.prog 46 #[v, .func (.func 45) #[] #[.pointer (some ⟨q, 0, none⟩)]] w fun e w' => e = .returned (.bool (xs.any T)) ∧ w = w' := by
  have HI := Lib.hid (index_idle q v xs T base w hv hlen hT)
  generalize xs.any T = r at HI
  clear hv hT hlen
  go_enter Try.func46, Try.ntmps46
  go_wp2_with fail
  refine HI.out.mono ?_
  rintro _ w2 ⟨k, rfl, rfl, rfl⟩
  dsimp only
  go_wp2_with fail
  go_ret
  exact ⟨rfl, rfl⟩

set_option maxHeartbeats 1000000 in
/-- IndexFunc, ContainsFunc with that closure -/
theorem index_free (q : Nat) (v : Value) (xs : List Int) (T : Int → Bool) (base : Nat) (w : World) (hv : OwnI w base v xs) (hlen : xs.length ≤ 1099511627776) (hT : ∀ j, j < xs.length → Calls Try.prog 49 #[.int .i64 (xs.getD j 0), .pointer (some ⟨q, 0, none⟩)] w fun e w' => e = .returned (.bool (T (xs.getD j 0))) ∧ w = w') :
    Calls Try.prog 54 #[v, .func (.func 49) #[] #[.pointer (some ⟨q, 0, none⟩)]] w fun e w' => ∃ k : Int, e = .returned (.int .i64 k) ∧ decide (0 ≤ k) = xs.any T ∧ w = w' := by
  have HT := Lib.hid hT
  clear hT
  rcases hv.slice with ⟨rfl, rfl⟩ | ⟨b, cap, rfl, _, _, hc⟩
  · clear HT hv hlen
    go_enter Try.func54, Try.ntmps54
    go_wp2_with fail
    go_loop [8] (fun i => i = .int .i64 0) (fun _ => 0)
    case atStart => rfl
    case round =>
      obtain rfl := hrel
      go_wp2_with fail
      go_ret
      exact ⟨-1, rfl, by simp, rfl⟩
  · have HC := Lib.hid hc
    clear hc hv
    obtain ⟨m, hm⟩ : ∃ m, m = xs.length := ⟨_, rfl⟩
    have HM := Lib.hid hm
    rw [← hm]
    have hmb : m ≤ 1099511627776 := by omega
    clear hm hlen
    go_enter Try.func54, Try.ntmps54
    go_wp2_with fail
    go_loop [8] (fun i => ∃ j : Nat, j ≤ m ∧ i = .int .i64 j ∧ Hid ((xs.take j).any T = false)) (fun i => m - (intOf i).toNat)
    case atStart => exact ⟨0, by omega, rfl, Lib.hid rfl⟩
    case round =>
      obtain ⟨j, hj, rfl, hR⟩ := hrel
      by_cases hlt : j < m
      · have hcj := HC.out j (by have := HM.out; omega)
        have hj0 : (0 : Int) ≤ (j : Int) := by omega
        have hjn : (j : Int) < (m : Int) := by omega
        have HTj := Lib.hid (HT.out j (by have := HM.out; omega))
        have HY := Lib.hid (fun h => any_here (T := T) (show j < xs.length by have := HM.out; omega) h)
        have HO := Lib.hid (fun h => any_take hR.out (show j < xs.length by have := HM.out; omega) h)
        generalize xs.getD j 0 = x at hcj HTj HY HO
        go_wp2_with fail
        refine HTj.out.mono ?_
        rintro _ w2 ⟨rfl, rfl⟩
        dsimp only
        cases hu : T x with
        | true =>
          have HV := Lib.hid (HY.out hu)
          clear HY HO hu
          go_wp2_with fail
          go_ret
          exact ⟨(j : Int), rfl, by rw [HV.out]; exact decide_eq_true (by omega), rfl⟩
        | false =>
          have HV := Lib.hid (HO.out hu)
          clear HY HO hu
          go_wp2_with fail
          go_round
          case rel => exact ⟨j + 1, by omega, by go_num, HV⟩
          case measure => simp [intOf]; omega
      · obtain rfl : j = m := by omega
        have HV : Hid (xs.any T = false) := Lib.hid (by have := hR.out; rwa [HM.out, List.take_length] at this)
        clear hR
        go_wp2_with fail
        go_ret
        exact ⟨-1, rfl, by rw [HV.out]; rfl, rfl⟩
theorem contains_free (q : Nat) (v : Value) (xs : List Int) (T : Int → Bool) (base : Nat) (w : World) (hv : OwnI w base v xs) (hlen : xs.length ≤ 1099511627776) (hT : ∀ j, j < xs.length → Calls Try.prog 49 #[.int .i64 (xs.getD j 0), .pointer (some ⟨q, 0, none⟩)] w fun e w' => e = .returned (.bool (T (xs.getD j 0))) ∧ w = w') :
    Calls Try.prog 46 #[v, .func (.func 49) #[] #[.pointer (some ⟨q, 0, none⟩)]] w fun e w' => e = .returned (.bool (xs.any T)) ∧ w = w' := by
  have HI := Lib.hid (index_free q v xs T base w hv hlen hT)
  generalize xs.any T = r at HI
  clear hv hT hlen
  go_enter Try.func46, Try.ntmps46
  go_wp2_with fail
  refine HI.out.mono ?_
  rintro _ w2 ⟨k, rfl, rfl, rfl⟩
  dsimp only
  go_wp2_with fail
  go_ret
  exact ⟨rfl, rfl⟩
end Sp
end Go.Proofs.Ytdbmdocmnhgbpaa
