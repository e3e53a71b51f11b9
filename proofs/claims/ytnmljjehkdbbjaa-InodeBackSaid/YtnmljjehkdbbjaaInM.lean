/- inode: a node that is laid is taken as it was: the numbers alone. -/
import Derived.Test.YtnmljjehkdbbjaaInI
namespace Go.Proofs.Ytnmljjehkdbbjaa
set_option maxRecDepth 20000
namespace In
open Go.RowKit Dk Eqb Byt Pt

/-- a pointer's sum is of bytes -/
def SB (p : Pn) : Prop := ∀ j, j < 32 → 0 ≤ p.S j ∧ p.S j < 256
theorem byteAt_in (z : Int) (j : Nat) : 0 ≤ Wd.byteAt z j ∧ Wd.byteAt z j < 256 := Wd.byteAt_bd z j
theorem pp_bytes {p : Pn} (hp : ppG 64 8 p = true) (hS : SB p) {i : Nat} (h1 : 8 ≤ i) (h2 : i < 48) : 0 ≤ ppF 64 8 p (fun _ => 0) i ∧ ppF 64 8 p (fun _ => 0) i < 256 := by
  have hg1 : Wd.putGood 64 8 4 (side p.A) := side_good (by omega) (by omega) (right_bd (ppG_right hp)).1
  have hg2 : Wd.putGood 64 (8 + 4) 4 (side p.B) := side_good (by omega) (by omega) (right_bd (ppG_right hp)).2
  have e1 : (8 + 4 : Int).toNat = 12 := rfl
  have e2 : (8 + 8 : Int).toNat = 16 := rfl
  have e3 : (8 : Int).toNat = 8 := rfl
  have e4 : (4 : Int).toNat = 4 := rfl
  unfold ppF
  rw [if_pos hp]
  unfold mix Wd.putF
  rw [if_pos hg1, if_pos hg2]
  unfold mix
  rw [e1, e2, e3, e4]
  split
  · exact hS _ (by omega)
  · split
    · exact byteAt_in _ _
    · split
      · exact byteAt_in _ _
      · omega
theorem ly_bytes {n : Nd} (h : rtB n = true) (hS : SB n.p) (i : Nat) : 0 ≤ lyF n i ∧ lyF n i < 256 := by
  obtain ⟨_, hp⟩ := right_lay h
  unfold lyF
  split
  · exact byteAt_in _ _
  · split
    · exact byteAt_in _ _
    · split
      · exact byteAt_in _ _
      · split
        · exact byteAt_in _ _
        · split
          · rename_i h8
            exact pp_bytes hp hS h8.1 h8.2
          · omega
theorem tkV_congr {f g : Nat → Int} (h : ∀ i : Nat, 8 ≤ i → i < 48 → f i = g i) : pV (tkV 64 8 f) = pV (tkV 64 8 g) ∧ tkE 64 8 f = tkE 64 8 g := by
  have e := tkP_congr (n := 64) (a := 8) (f := f) (g := g) (by omega) fun i h1 h2 => h i (by omega) (by omega)
  have er := right_congr e
  unfold tkV tkE
  rw [er]
  refine ⟨?_, rfl⟩
  split
  · split
    · exact e
    · rfl
  · rfl
theorem tkV_ly {n : Nd} (h : rtB n = true) : pV (tkV 64 8 (lyF n)) = pV n.p ∧ tkE 64 8 (lyF n) = 0 := by
  obtain ⟨_, hp⟩ := right_lay h
  obtain ⟨h1, h2⟩ := tk_pp_yes (n := 64) (a := 8) (p := n.p) (fun _ => 0) hp
  obtain ⟨h3, h4⟩ := tkV_congr (f := lyF n) (g := ppF 64 8 n.p fun _ => 0) fun i a b => by
    unfold lyF
    rw [if_neg (by omega), if_neg (by omega), if_neg (by omega), if_neg (by omega), if_pos ⟨a, b⟩]
  exact ⟨h3.trans h1, h4.trans h2⟩
theorem nm_ly {n : Nd} (h : rtB n = true) (hS : SB n.p) : nmF (lyF n) 0 = n.K ∧ nmF (lyF n) 1 = n.L ∧ nmF (lyF n) 2 = n.c ∧ nmF (lyF n) 3 = n.z := by
  obtain ⟨hg, _⟩ := right_lay h
  obtain ⟨_, hK, hL0, hL1, ⟨_, hz0, hz1, hc0, hc1⟩, _⟩ := rtB_iff.1 h
  have hb : ∀ i, i < 64 → 0 ≤ lyF n i ∧ lyF n i < 256 := fun i _ => ly_bytes h hS i
  refine ⟨?_, ?_, ?_, ?_⟩
  · rw [nm_byte hb (k := 0) (by omega)]
    exact byte0 (by omega) (by omega)
  · rw [nm_byte hb (k := 1) (by omega)]
    exact byte0 (by omega) (by omega)
  · rw [nm_byte hb (k := 2) (by omega)]
    exact byte0 (by omega) (by omega)
  · have g3 : Wd.putGood 64 4 4 n.z := hg 3 (by omega)
    show Wd.takeN 64 4 4 (lyF n) = n.z
    rw [takeN_congr (g := Wd.putF 64 4 4 n.z fun _ => 0) fun i hi => ?_, put_take4 64 4 _ _ g3]
    have e4 : (4 : Int).toNat = 4 := rfl
    unfold Wd.putF
    rw [if_pos g3, e4, mix_in (by omega) (by omega)]
    unfold lyF
    rw [if_neg (by omega), if_neg (by omega), if_neg (by omega), if_pos (by omega)]
theorem nV_congr {n m : Nd} (h0 : n.N = m.N) (h1 : n.K = m.K) (h2 : n.L = m.L) (h3 : pV n.p = pV m.p) (h4 : n.z = m.z) (h5 : n.c = m.c) : nV n = nV m := by
  unfold nV sV
  rw [h0, h1, h2, h3, h4, h5]
theorem rt_congr {n m : Nd} (h0 : n.N = m.N) (h1 : n.K = m.K) (h2 : n.L = m.L) (h3 : pV n.p = pV m.p) (h4 : n.z = m.z) (h5 : n.c = m.c) : rtB n = rtB m := by
  unfold rtB rsB
  rw [h0, h1, h2, right_congr h3, h4, h5]
theorem pp_congr {p q : Pn} (h : pV p = pV q) (i : Nat) : ppF 64 8 p (fun _ => 0) i = ppF 64 8 q (fun _ => 0) i := by
  obtain ⟨hA, hB, hS⟩ := pV_inj h
  have hG : ppG 64 8 p = ppG 64 8 q := by unfold ppG; rw [right_congr h]
  unfold ppF
  rw [hG, hA, hB]
  split
  · unfold mix
    split
    · exact hS _ (by omega)
    · rfl
  · rfl
theorem ly_congr {n m : Nd} (h1 : n.K = m.K) (h2 : n.L = m.L) (h3 : pV n.p = pV m.p) (h4 : n.z = m.z) (h5 : n.c = m.c) (i : Nat) : lyF n i = lyF m i := by
  unfold lyF
  rw [h1, h2, pp_congr h3, h4, h5]
theorem tk_ly {n : Nd} (h : rtB n = true) (hS : SB n.p) : nV (tkR (lyF n) n.N) = nV n ∧ tkX (lyF n) n.N = 0 := by
  obtain ⟨hv, hE⟩ := tkV_ly h
  obtain ⟨e0, e1, e2, e3⟩ := nm_ly h hS
  obtain ⟨⟨hN0, hN1⟩, hK, _⟩ := rtB_iff.1 h
  have hn : nbB n.N = true := nbB_iff.2 ⟨hN0, hN1⟩
  have hz : eqB 64 (lyF n) (fun _ => 0) = false := by
    cases e : eqB 64 (lyF n) (fun _ => 0) with
    | false => rfl
    | true =>
      have := eqB_iff.1 e 0 (by omega)
      have hb : lyF n 0 = n.K := byte0 (by omega) (by omega)
      omega
  have hr : rtB (tkN (lyF n) n.N) = true := (rt_congr (n := tkN (lyF n) n.N) (m := n) rfl e0 e1 hv e3 e2).trans h
  have hl : eqB 64 (lyF (tkN (lyF n) n.N)) (lyF n) = true := eqB_iff.2 fun i _ => ly_congr (n := tkN (lyF n) n.N) (m := n) e0 e1 hv e3 e2 i
  have hG : tkG (lyF n) n.N = true := by unfold tkG; rw [hE, hr, hl]; rfl
  unfold tkR tkX
  rw [hn, hz, hG]
  exact ⟨nV_congr (n := tkN (lyF n) n.N) (m := n) rfl e0 e1 hv e3 e2, rfl⟩
theorem tk_ok {x : Nat → Int} {N : Int} (h : tkX x N = 0) : rtB (tkR x N) = true ∧ eqB 64 (lyF (tkR x N)) x = true := by
  unfold tkX at h
  unfold tkR
  cases hn : nbB N with
  | false => rw [hn] at h; simp at h
  | true =>
    rw [hn] at h
    cases hz : eqB 64 x (fun _ => 0) with
    | true => rw [hz] at h; simp at h
    | false =>
      rw [hz] at h
      cases hG : tkG x N with
      | false => rw [hG] at h; simp at h
      | true =>
        unfold tkG at hG
        simp only [Bool.and_eq_true] at hG
        simp only [if_true, Bool.false_eq_true, if_false]
        exact hG.2
/-- == of equal values of Stat -/
theorem eq_st6 (a b c d e f : Int) (w : World) : (Op.equalIn 10000 35 (.agg [.int .i64 a, .int .i64 b, .int .i64 c, .int .i64 d, .int .i64 e, .int .i64 f].toArray) (.agg [.int .i64 a, .int .i64 b, .int .i64 c, .int .i64 d, .int .i64 e, .int .i64 f].toArray)).run Try.prog w = .ok true w := by
  rw [run_equalIn_struct w 9999 35 _ _ (by kernel_rfl) (by kernel_rfl)]
  obtain ⟨f0, f1, f2, f3, f4, f5, hf, t0, o0, n0, t1, o1, n1, t2, o2, n2, t3, o3, n3, t4, o4, n4, t5, o5, n5⟩ : ∃ f0 f1 f2 f3 f4 f5 : Field, (Try.prog.fieldsOf 35).toList = [f0, f1, f2, f3, f4, f5] ∧ f0.type = 3 ∧ f0.offset = 0 ∧ (f0.name ≠ "_") ∧ f1.type = 3 ∧ f1.offset = 1 ∧ (f1.name ≠ "_") ∧ f2.type = 3 ∧ f2.offset = 2 ∧ (f2.name ≠ "_") ∧ f3.type = 3 ∧ f3.offset = 3 ∧ (f3.name ≠ "_") ∧ f4.type = 3 ∧ f4.offset = 4 ∧ (f4.name ≠ "_") ∧ f5.type = 3 ∧ f5.offset = 5 ∧ (f5.name ≠ "_") := ⟨_, _, _, _, _, _, rfl, rfl, rfl, by decide, rfl, rfl, by decide, rfl, rfl, by decide, rfl, rfl, by decide, rfl, rfl, by decide, rfl, rfl, by decide⟩
  rw [hf]
  have hi : Try.prog.underlying 3 = some (.int .i64) := by kernel_rfl
  simp only [Op.eqFields, Sem.run_bind, Sem.run_ite, if_pos n0, if_pos n1, if_pos n2, if_pos n3, if_pos n4, if_pos n5, t0, o0, t1, o1, t2, o2, t3, o3, t4, o4, t5, o5]
  rw [part_i _ 0 a rfl w, Result.andThen_ok, part_i _ 0 a rfl w, Result.andThen_ok, run_equalIn_int w 9998 _ .i64 .i64 _ _ hi, Result.andThen_ok]
  simp only [beq_self_eq_true, Bool.not_true, Bool.false_eq_true, if_false]
  rw [part_i _ 1 b rfl w, Result.andThen_ok, part_i _ 1 b rfl w, Result.andThen_ok, run_equalIn_int w 9998 _ .i64 .i64 _ _ hi, Result.andThen_ok]
  simp only [beq_self_eq_true, Bool.not_true, Bool.false_eq_true, if_false]
  rw [part_i _ 2 c rfl w, Result.andThen_ok, part_i _ 2 c rfl w, Result.andThen_ok, run_equalIn_int w 9998 _ .i64 .i64 _ _ hi, Result.andThen_ok]
  simp only [beq_self_eq_true, Bool.not_true, Bool.false_eq_true, if_false]
  rw [part_i _ 3 d rfl w, Result.andThen_ok, part_i _ 3 d rfl w, Result.andThen_ok, run_equalIn_int w 9998 _ .i64 .i64 _ _ hi, Result.andThen_ok]
  simp only [beq_self_eq_true, Bool.not_true, Bool.false_eq_true, if_false]
  rw [part_i _ 4 e rfl w, Result.andThen_ok, part_i _ 4 e rfl w, Result.andThen_ok, run_equalIn_int w 9998 _ .i64 .i64 _ _ hi, Result.andThen_ok]
  simp only [beq_self_eq_true, Bool.not_true, Bool.false_eq_true, if_false]
  rw [part_i _ 5 f rfl w, Result.andThen_ok, part_i _ 5 f rfl w, Result.andThen_ok, run_equalIn_int w 9998 _ .i64 .i64 _ _ hi, Result.andThen_ok]
  simp
theorem eq_stR (n : Nd) (k : Int) (w : World) : (Op.equalIn 10000 35 (.agg (stR n k).toArray) (.agg (stR n k).toArray)).run Try.prog w = .ok true w := by
  unfold stR
  split
  · exact eq_st6 _ _ _ _ _ _ w
  · exact eq_st6 _ _ _ _ _ _ w
theorem guardT : Try.prog.eqGuardType Try.prog.depth 35 = false := by kernel_rfl
/-- a value of Stat, its box -/
theorem box_t (w : World) (L : List Value) : ∃ W, W = w.alloc (.cells L.toArray 35) ∧ Below w.heap.size w W ∧ W.heap[w.heap.size]? = some (.cells L.toArray 35 (0, 0)) ∧ W.heap.size = w.heap.size + 1 := ⟨_, rfl, (Below.refl _ _).alloc (Nat.le_refl _) _, heap_alloc_new _ _, by simp⟩
theorem row_all {w : World} {b : Nat} {L : List Value} {t : TypeId} (h : w.heap[b]? = some (.cells L.toArray t (0, 0))) : w.rangeAt b 0 L := fun j v hv => by
  rw [Nat.zero_add, cell_of_row w b j _ _ _ h]
  simpa using hv
theorem stR_one (n : Nd) (k : Int) : (stR n k).toArray.all (·.oneCell') = true := by
  unfold stR
  split
  · exact stV_one n k
  · exact z6_one
end In
end Go.Proofs.Ytnmljjehkdbbjaa
