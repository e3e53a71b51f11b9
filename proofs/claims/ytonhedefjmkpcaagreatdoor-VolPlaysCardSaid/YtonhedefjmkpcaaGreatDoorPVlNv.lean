import Derived.Test.YtonhedefjmkpcaaGreatDoorPSpPlc
/- vol: a play in numbers: which sectors are held (made from XSpNvM, whose space is another). -/
namespace Go.Proofs.YtonhedefjmkpcaaGreatDoor
set_option maxRecDepth 20000
namespace Vp
open Go.RowKit Dk Eqb Byt Sp

theorem ap9 : Ap 28 184 128 := ⟨by omega, by omega, by omega, by omega, by omega⟩
/-- a sector's place -/
def pos (x : Int) : Nat := (plI 28 184 128 x).toNat
theorem pos_lt {x : Int} (h : 0 ≤ plI 28 184 128 x) : pos x < 256 ∧ 28 ≤ x ∧ x < 312 := by
 have h1 := plI_lt (x := x) ap9
 unfold pos
 refine ⟨by omega, ?_⟩
 unfold plI at h
 split at h
 ·omega
 ·split at h <;> omega
theorem pos_ne {x y : Int} (h : 0 ≤ plI 28 184 128 x) (h2 : 0 ≤ plI 28 184 128 y) (hne : x ≠ y) : pos x ≠ pos y := by
 intro he
 unfold pos at he
 exact hne (plI_inj ap9 h (by omega))
theorem put_at (f : Nat → Int) (j : Nat) (z : Int) : put f j z j = z := if_pos rfl
theorem put_off {f : Nat → Int} {i j : Nat} (z : Int) (h : i ≠ j) : put f j z i = f i := if_neg h
theorem usN_far (f : Nat → Int) (j : Nat) (z : Int) : ∀ k, k ≤ j → usN (put f j z) k = usN f k
 | 0, _ => rfl
 | k + 1, hk => by rw [usN, usN, usN_far f j z k (by omega), put_off z (by omega)]
theorem usN_put (f : Nat → Int) (j : Nat) (z : Int) : ∀ n, j < n → usN (put f j z) n = usN f n - (if us (f j) then 1 else 0) + (if us z then 1 else 0)
 | 0, h => by omega
 | n + 1, h => by
  by_cases e : j = n
  ·subst e
   rw [usN, usN, usN_far f j z j (Nat.le_refl _), put_at]
   omega
  ·rw [usN, usN, usN_put f j z n (by omega), put_off z (by omega)]
   omega

/-- the sectors S are held; K were kept, G went since, D were dropped -/
structure NvV (f : Nat → Int) (S : List Int) (K G D : Int → Prop) : Prop where
 bd : ∀ i, i < 256 → 0 ≤ f i ∧ f i ≤ 4
 ok : ∀ x, x ∈ S → 0 ≤ plI 28 184 128 x ∧ us (f (pos x)) = true
 nd : S.Nodup
 cnt : usN f 256 = S.length
 kp : ∀ x, K x → 0 ≤ plI 28 184 128 x ∧ (f (pos x) = 1 ∨ f (pos x) = 3)
 gn : ∀ x, G x → 0 ≤ plI 28 184 128 x ∧ f (pos x) = 3
 go : ∀ x, D x → 0 ≤ plI 28 184 128 x ∧ (f (pos x) = 3 ∨ f (pos x) = 4)
theorem us_iff {z : Int} : us z = true ↔ z = 1 ∨ z = 2 := by simp [us]
section
variable {f : Nat → Int} {S S1 S2 : List Int} {K G D : Int → Prop}
theorem NvV.form (h : NvV f S K G D) : formB 28 184 128 256 f = true := formB_iff.2 ⟨by omega, rfl, fun i hi => (h.bd i hi).2⟩
theorem NvV.used (h : NvV f S K G D) : usedN 28 184 128 256 f = S.length := by unfold usedN; rw [h.form]; exact h.cnt
theorem NvV.len (h : NvV f S K G D) : S.length ≤ 256 := by
 have := (usN_bd f 256).2
 have := h.cnt
 omega
/-- who is free is nobody's -/
theorem NvV.free (h : NvV f S K G D) {x : Int} (hx : f (pos x) = 0) : x ∉ S ∧ ¬ G x ∧ ¬ D x := by
 refine ⟨fun hm => ?_, fun hm => ?_, fun hm => ?_⟩
 ·have := (h.ok x hm).2
  rw [hx] at this
  exact absurd this (by decide)
 ·have := (h.gn x hm).2; omega
 ·have := (h.go x hm).2; omega
theorem NvV.take (h : NvV f S K G D) {a : Int} (ha : 0 ≤ plI 28 184 128 a) (h0 : f (pos a) = 0) : NvV (put f (pos a) (tkN (f (pos a)).toNat)) (S ++ [a]) K G D := by
 have hz : tkN (f (pos a)).toNat = 2 := by rw [h0]; rfl
 rw [hz]
 have hoff : ∀ x, 0 ≤ plI 28 184 128 x → f (pos x) ≠ 0 → put f (pos a) 2 (pos x) = f (pos x) := fun x hx hn => put_off 2 (by
  intro e
  rw [e, h0] at hn
  exact hn rfl)
 refine ⟨fun i hi => ?_, fun x hx => ?_, ?_, ?_, fun x hx => ?_, fun x hx => ?_, fun x hx => ?_⟩
 ·by_cases e : i = pos a
  ·rw [e, put_at]; omega
  ·rw [put_off 2 e]; exact h.bd i hi
 ·rw [List.mem_append, List.mem_singleton] at hx
  rcases hx with hx | rfl
  ·obtain ⟨h1, h2⟩ := h.ok x hx
   exact ⟨h1, by rw [hoff x h1 (by have := us_iff.1 h2; omega)]; exact h2⟩
  ·exact ⟨ha, by rw [put_at]; rfl⟩
 ·rw [List.nodup_append]
  refine ⟨h.nd, by simp, fun x hx y hy => ?_⟩
  rw [List.mem_singleton] at hy
  subst hy
  rintro rfl
  exact (h.free h0).1 hx
 ·rw [usN_put f (pos a) 2 256 (pos_lt ha).1, h0, h.cnt, List.length_append]
  show (S.length : Int) - 0 + 1 = _
  simp
 ·obtain ⟨h1, h2⟩ := h.kp x hx
  rw [hoff x h1 (by omega)]
  exact ⟨h1, h2⟩
 ·obtain ⟨h1, h2⟩ := h.gn x hx
  rw [hoff x h1 (by omega)]
  exact ⟨h1, h2⟩
 ·obtain ⟨h1, h2⟩ := h.go x hx
  rw [hoff x h1 (by omega)]
  exact ⟨h1, h2⟩
theorem NvV.drop {a : Int} (h : NvV f (S1 ++ a :: S2) K G D) : NvV (put f (pos a) (drN (f (pos a)).toNat)) (S1 ++ S2) K (fun x => G x ∨ (K x ∧ x = a)) (fun x => D x ∨ x = a) := by
 obtain ⟨ha, hu⟩ := h.ok a (by simp)
 have hu' := us_iff.1 hu
 have hz : drN (f (pos a)).toNat = if f (pos a) = 1 then 3 else 4 := by
  rcases hu' with e | e <;> rw [e] <;> rfl
 have hus : us (drN (f (pos a)).toNat) = false := by
  rcases hu' with e | e <;> rw [e] <;> rfl
 have hne : a ∉ S1 ++ S2 := by
  have := (List.perm_middle.nodup_iff).1 h.nd
  exact (List.nodup_cons.1 this).1
 have hoff : ∀ z x, x ≠ a → 0 ≤ plI 28 184 128 x → put f (pos a) z (pos x) = f (pos x) := fun z x hx h0 => put_off z (pos_ne h0 ha hx)
 refine ⟨fun i hi => ?_, fun x hx => ?_, ?_, ?_, fun x hx => ?_, fun x hx => ?_, fun x hx => ?_⟩
 ·by_cases e : i = pos a
  ·rw [e, put_at, hz]; split <;> omega
  ·rw [put_off _ e]; exact h.bd i hi
 ·have hx' : x ∈ S1 ++ a :: S2 := by
   rw [List.mem_append] at hx ⊢
   rcases hx with hx | hx
   ·exact .inl hx
   ·exact .inr (List.mem_cons_of_mem _ hx)
  obtain ⟨h1, h2⟩ := h.ok x hx'
  refine ⟨h1, ?_⟩
  rw [hoff _ x (by rintro rfl; exact hne hx) h1]
  exact h2
 ·have := (List.perm_middle.nodup_iff).1 h.nd
  exact (List.nodup_cons.1 this).2
 ·rw [usN_put f (pos a) _ 256 (pos_lt ha).1, hu, hus, h.cnt]
  simp
  omega
 ·obtain ⟨h1, h2⟩ := h.kp x hx
  refine ⟨h1, ?_⟩
  by_cases e : x = a
  ·subst e
   rw [put_at, hz]
   have e1 : f (pos x) = 1 := by omega
   rw [if_pos e1]
   omega
  ·rw [hoff _ x e h1]; exact h2
 ·rcases hx with hx | ⟨hx, e⟩
  ·obtain ⟨h1, h2⟩ := h.gn x hx
   rw [hoff _ x (by rintro rfl; omega) h1]
   exact ⟨h1, h2⟩
  ·subst e
   have h2 := (h.kp x hx).2
   rw [put_at, hz]
   have e1 : f (pos x) = 1 := by omega
   rw [if_pos e1]
   exact ⟨ha, rfl⟩
 ·by_cases e : x = a
  ·subst e
   rw [put_at, hz]
   exact ⟨ha, by split <;> omega⟩
  ·obtain ⟨h1, h2⟩ := h.go x (hx.resolve_right e)
   rw [hoff _ x e h1]
   exact ⟨h1, h2⟩
theorem NvV.weak {K2 G2 D2 : Int → Prop} (h : NvV f S K G D) (hK : ∀ x, K2 x → K x) (hG : ∀ x, G2 x → G x) (hD : ∀ x, D2 x → D x) : NvV f S K2 G2 D2 :=
 ⟨h.bd, h.ok, h.nd, h.cnt, fun x hx => h.kp x (hK x hx), fun x hx => h.gn x (hG x hx), fun x hx => h.go x (hD x hx)⟩
theorem usN_same {N : Nat → Int} {f : Nat → Int} (hN : ∀ z, 0 ≤ z ∧ z ≤ 4 → us (N z.toNat) = us z) : ∀ n, (∀ i, i < n → 0 ≤ f i ∧ f i ≤ 4) → usN (alT N f) n = usN f n
 | 0, _ => rfl
 | n + 1, h => by
  have h1 : us (alT N f n) = us (f n) := hN _ (h n (by omega))
  rw [usN, usN, usN_same hN n (fun i hi => h i (by omega)), h1]
theorem five {P : Int → Prop} (h0 : P 0) (h1 : P 1) (h2 : P 2) (h3 : P 3) (h4 : P 4) : ∀ z : Int, 0 ≤ z ∧ z ≤ 4 → P z := by
 intro z hz
 obtain e | e | e | e | e : z = 0 ∨ z = 1 ∨ z = 2 ∨ z = 3 ∨ z = 4 := by omega
 all_goals subst e; assumption
theorem NvV.swept (h : NvV f S K G D) : NvV (swF swN 28 184 128 256 f) S K G (fun _ => False) := by
 unfold swF
 rw [h.form]
 simp only [if_true]
 have hN : ∀ z, 0 ≤ z ∧ z ≤ 4 → us (swN z.toNat) = us z := five rfl rfl rfl rfl rfl
 refine ⟨fun i hi => ?_, fun x hx => ?_, h.nd, (usN_same hN 256 h.bd).trans h.cnt, fun x hx => ?_, fun x hx => ?_, fun x hx => hx.elim⟩
 ·have := h.bd i hi
  exact sw_bd (f i).toNat (by omega)
 ·obtain ⟨h1, h2⟩ := h.ok x hx
  exact ⟨h1, (hN _ (h.bd _ (pos_lt h1).1)).trans h2⟩
 ·obtain ⟨h1, h2⟩ := h.kp x hx
  refine ⟨h1, ?_⟩
  unfold alT
  rcases h2 with e | e <;> rw [e]
  ·exact .inl rfl
  ·exact .inr rfl
 ·obtain ⟨h1, h2⟩ := h.gn x hx
  refine ⟨h1, ?_⟩
  unfold alT
  rw [h2]
  rfl
end
theorem nv_start : NvV (fun _ => 0) [] (fun _ => False) (fun _ => False) (fun _ => False) :=
 ⟨fun _ _ => by omega, fun x hx => by simp at hx, List.nodup_nil, by decide, fun _ hx => hx.elim, fun _ hx => hx.elim, fun _ hx => hx.elim⟩

/-- the sectors of these -/
def sx (H : List Pt.Pn) : List Int := H.flatMap secs
theorem sx_append (H H' : List Pt.Pn) : sx (H ++ H') = sx H ++ sx H' := by simp [sx]
theorem sx_one (p : Pt.Pn) : sx [p] = secs p := by simp [sx]
theorem sx_mem {p : Pt.Pn} {H : List Pt.Pn} {x : Int} (hp : p ∈ H) (hx : x ∈ secs p) : x ∈ sx H := List.mem_flatMap.2 ⟨p, hp, hx⟩
theorem secs_one {p : Pt.Pn} (hA : p.A ≠ -1) (hB : p.B = -1) : secs p = [p.A] := by unfold secs sec1; rw [if_neg hA, if_pos hB]; rfl
theorem secs_two {p : Pt.Pn} (hA : p.A ≠ -1) (hB : p.B ≠ -1) : secs p = [p.A, p.B] := by unfold secs sec1; rw [if_neg hA, if_neg hB]; rfl
/-- what stands of a pointer that is held -/
structure Hp (p : Pt.Pn) : Prop where
 a : 0 ≤ p.A
 b : -1 ≤ p.B
 alo : p.A < 4096
 blo : p.B < 4096
theorem sx_step {H : List Pt.Pn} {m : Nat} {q : Pt.Pn} (hq : H[m]? = some q) : sx (H.take (m + 1)) = sx (H.take m) ++ secs q := by
 obtain ⟨hm, rfl⟩ := List.getElem?_eq_some_iff.1 hq
 rw [List.take_succ_eq_append_getElem hm, sx_append, sx_one]
theorem sx_parts {H : List Pt.Pn} {m : Nat} {q : Pt.Pn} (hq : H[m]? = some q) : sx H = sx (H.take m) ++ secs q ++ sx (H.drop (m + 1)) := by
 rw [← sx_step hq, ← sx_append, List.take_append_drop]
/-- .. taken -/
theorem tk_never {f : Nat → Int} {S : List Int} {K G D : Int → Prop} (h : NvV f S K G D) {c : Nat} (hc : c = 1 ∨ c = 2) :
  (tkE 28 184 128 256 f c = 9 ∧ tkF 28 184 128 256 f c = f) ∨
  ∃ p, Hp p ∧ tkp 28 184 128 256 f c = p.A ∧ tkq 28 184 128 256 f c = p.B ∧ tkE 28 184 128 256 f c = 0 ∧ (c = 1 → p.B = -1) ∧ (c = 2 → 0 ≤ p.B) ∧ (∀ x, x ∈ secs p → x ∉ S ∧ ¬ G x ∧ ¬ D x) ∧ NvV (tkF 28 184 128 256 f c) (S ++ secs p) K G D := by
 have hp : formB 28 184 (128 : Nat) 256 f = true := h.form
 have hap : Ap 28 184 (128 : Nat) := ap9
 cases ho : tpOk 28 184 128 f c with
 | false =>
  obtain ⟨_, _, h3, h4⟩ := tk_no hp hc ho
  exact .inl ⟨h3, h4⟩
 | true =>
  obtain ⟨h1, h2, h3, h4⟩ := tk_yes hp hc ho
  have hall := tpOk_yes ho hc
  right
  have n0 := hall 0 (by omega)
  obtain ⟨e0, l0, z0, d0⟩ := tpL_at hap hc (show 0 < c by omega) n0
  have b0 := tpP_bd (f := f) (c := c) hap 0
  have b1 := tpP_bd (f := f) (c := c) hap 1
  have hA : tpP 28 184 128 f c 0 = tp0 28 184 128 f c := rfl
  have hB : tpP 28 184 128 f c 1 = tp1 184 128 f c := rfl
  have hpa : 0 ≤ plI 28 184 128 (tp0 28 184 128 f c) := by
   have : plI 28 184 (128 : Nat) (tp0 28 184 128 f c) = tpL 28 184 128 f c 0 := e0
   show 0 ≤ plI 28 184 (128 : Nat) (tp0 28 184 128 f c)
   omega
  have hza : f (pos (tp0 28 184 128 f c)) = 0 := z0
  have hsA := h.take hpa hza
  have hbA := pos_lt hpa
  refine ⟨⟨tp0 28 184 128 f c, tp1 184 128 f c, Pt.zS⟩, ⟨by show 0 ≤ tp0 28 184 128 f c; omega, by show -1 ≤ tp1 184 128 f c; omega, by show tp0 28 184 128 f c < 4096; omega, ?_⟩, h1, h2, h3, ?_, ?_, ?_, ?_⟩
  ·show tp1 184 128 f c < 4096
   rcases hc with rfl | rfl
   ·show (-1 : Int) < 4096; omega
   ·have n1 := hall 1 (by omega)
    obtain ⟨e1, l1, _⟩ := tpL_at hap (.inr rfl) (show 1 < 2 by omega) n1
    have : 0 ≤ plI 28 184 128 (tp1 184 128 f 2) := by
     have : plI 28 184 (128 : Nat) (tp1 184 128 f 2) = tpL 28 184 128 f 2 1 := e1
     show 0 ≤ plI 28 184 (128 : Nat) (tp1 184 128 f 2)
     omega
    have := pos_lt this
    omega
  ·rintro rfl; rfl
  ·rintro rfl
   have n1 := hall 1 (by omega)
   show 0 ≤ tp1 184 128 f 2
   omega
  ·intro x hx
   rcases hc with rfl | rfl
   ·rw [secs_one (by show tp0 28 184 128 f 1 ≠ -1; omega) rfl, List.mem_singleton] at hx
    subst hx
    exact h.free hza
   ·have n1 := hall 1 (by omega)
    have z1 := (tpL_at hap (.inr rfl) (show 1 < 2 by omega) n1).2.2.1
    rw [secs_two (by show tp0 28 184 128 f 2 ≠ -1; omega) (by show tp1 184 128 f 2 ≠ -1; omega)] at hx
    rcases List.mem_cons.1 hx with rfl | hx
    ·exact h.free hza
    ·rw [List.mem_singleton] at hx
     subst hx
     exact h.free z1
  ·show NvV (tkF 28 184 (128 : Nat) 256 f c) _ K G D
   rw [h4]
   rcases hc with rfl | rfl
   ·rw [secs_one (by show tp0 28 184 128 f 1 ≠ -1; omega) rfl]
    exact hsA
   ·have n1 := hall 1 (by omega)
    obtain ⟨e1, l1, z1, d1⟩ := tpL_at hap (.inr rfl) (show 1 < 2 by omega) n1
    have hpb : 0 ≤ plI 28 184 128 (tp1 184 128 f 2) := by
     have : plI 28 184 (128 : Nat) (tp1 184 128 f 2) = tpL 28 184 128 f 2 1 := e1
     show 0 ≤ plI 28 184 (128 : Nat) (tp1 184 128 f 2)
     omega
    have hne : tpL 28 184 128 f 2 1 ≠ tpL 28 184 128 f 2 0 := by
     have := (d0 rfl).1 rfl
     have := (d1 rfl).2 rfl
     omega
    rw [secs_two (by show tp0 28 184 128 f 2 ≠ -1; omega) (by show tp1 184 128 f 2 ≠ -1; omega), show S ++ [tp0 28 184 128 f 2, tp1 184 128 f 2] = (S ++ [tp0 28 184 128 f 2]) ++ [tp1 184 128 f 2] by simp]
    exact hsA.take hpb ((put_off _ (show pos (tp1 184 128 f 2) ≠ pos (tp0 28 184 128 f 2) from hne)).trans z1)
theorem held_right {p : Pt.Pn} (hh : Hp p) (hne : p.B ≠ p.A) : Pt.rightB p = true := by
 have h1 : Pt.secB p.A = true := Pt.secB_iff.2 ⟨hh.a, hh.alo⟩
 unfold Pt.rightB
 rw [h1]
 by_cases e : p.B = -1
 ·rw [e]; simp
 ·have h2 : Pt.secB p.B = true := Pt.secB_iff.2 ⟨by have := hh.b; omega, hh.blo⟩
  rw [h2]
  simp [hne]
/-- .. dropped -/
theorem dr_never {f : Nat → Int} {S1 S2 : List Int} {K G D : Int → Prop} {p : Pt.Pn} (h : NvV f (S1 ++ secs p ++ S2) K G D) (hh : Hp p) :
  drE 28 184 128 256 f p = 0 ∧ NvV (drF 28 184 128 256 f p) (S1 ++ S2) K (fun x => G x ∨ (K x ∧ x ∈ secs p)) (fun x => D x ∨ x ∈ secs p) := by
 have hA : p.A ≠ -1 := by have := hh.a; omega
 have hap := h.form
 by_cases hB : p.B = -1
 ·have hs := secs_one hA hB
  rw [hs] at h ⊢
  have h' : NvV f (S1 ++ p.A :: S2) K G D := by simpa using h
  obtain ⟨o1, o2⟩ := h'.ok p.A (by simp)
  have e : pls 28 184 128 p = [plI 28 184 128 p.A] := by rw [pls_map, hs]; rfl
  have hb : drB 28 184 128 256 f p = true := by
   unfold drB plB anyP
   rw [hap, held_right hh (by omega), e, hB]
   have : us (f (plI 28 184 128 p.A).toNat) = true := o2
   simp [okB, o1, this]
  refine ⟨by unfold drE; rw [hb]; rfl, ?_⟩
  unfold drF
  rw [hb, e]
  have hL : plL 28 184 128 p 0 = pos p.A := by unfold plL; rw [e]; rfl
  show NvV (put f (plL 28 184 128 p 0) (drN (f (plL 28 184 128 p 0)).toNat)) _ _ _ _
  rw [hL]
  exact h'.drop.weak (fun _ hx => hx) (fun x hx => by simpa using hx) (fun x hx => by simpa using hx)
 ·have hs := secs_two hA hB
  rw [hs] at h ⊢
  have h' : NvV f (S1 ++ p.A :: (p.B :: S2)) K G D := by simpa using h
  obtain ⟨o1, o2⟩ := h'.ok p.A (by simp)
  obtain ⟨q1, q2⟩ := h'.ok p.B (by simp)
  have hne : p.B ≠ p.A := by
   intro e
   have := (List.nodup_append.1 h'.nd).2.1
   rw [e] at this
   simp at this
  have e : pls 28 184 128 p = [plI 28 184 128 p.A, plI 28 184 128 p.B] := by rw [pls_map, hs]; rfl
  have hb : drB 28 184 128 256 f p = true := by
   unfold drB plB anyP
   rw [hap, held_right hh hne, e]
   have t1 : us (f (plI 28 184 128 p.A).toNat) = true := o2
   have t2 : us (f (plI 28 184 128 p.B).toNat) = true := q2
   simp [okB, o1, q1, t1, t2]
  refine ⟨by unfold drE; rw [hb]; rfl, ?_⟩
  unfold drF
  rw [hb, e]
  have hL : plL 28 184 128 p 0 = pos p.A := by unfold plL; rw [e]; rfl
  have hL1 : plL 28 184 128 p 1 = pos p.B := by unfold plL; rw [e]; rfl
  show NvV (put (put f (plL 28 184 128 p 0) (drN (f (plL 28 184 128 p 0)).toNat)) (plL 28 184 128 p 1) (drN (put f (plL 28 184 128 p 0) (drN (f (plL 28 184 128 p 0)).toNat) (plL 28 184 128 p 1)).toNat)) _ _ _ _
  rw [hL, hL1]
  refine (h'.drop.drop (S1 := S1)).weak (fun _ hx => hx) (fun x hx => ?_) (fun x hx => ?_)
  ·rcases hx with hx | ⟨hx, hm⟩
   ·exact .inl (.inl hx)
   ·rcases List.mem_cons.1 hm with rfl | hm
    ·exact .inl (.inr ⟨hx, rfl⟩)
    ·rw [List.mem_singleton] at hm
     exact .inr ⟨hx, hm⟩
  ·rcases hx with hx | hm
   ·exact .inl (.inl hx)
   ·rcases List.mem_cons.1 hm with rfl | hm
    ·exact .inl (.inr rfl)
    ·rw [List.mem_singleton] at hm
     exact .inr hm
end Vp
end Go.Proofs.YtonhedefjmkpcaaGreatDoor
