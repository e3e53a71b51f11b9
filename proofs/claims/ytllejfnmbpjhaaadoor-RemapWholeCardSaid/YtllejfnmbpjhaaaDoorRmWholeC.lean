/- remap: a write with any fuse, a crash that keeps anything, and what is loaded then: the numbers alone. -/
import Derived.Test.YtllejfnmbpjhaaaDoorRmWholeL
namespace Go.Proofs.YtllejfnmbpjhaaaDoor
set_option maxRecDepth 20000
namespace Rm
open Go.RowKit Dk Byt

/-- the disk with another fuse -/
def fuse (X : Dst) (f : Int) : Dst := ⟨X.m, X.S, X.C, f, X.d⟩
def byt (f : Nat → Int) : Prop := ∀ i, i < 128 → 0 ≤ f i ∧ f i < 256
/-- what lies, or will lie, at the places of tables are bytes -/
structure Bt (n : Nat) (X : Dst) : Prop where
  s : ∀ c, isTb n c → byt (X.S c.toNat).data
  c : ∀ j, j < X.m → isTb n (X.C j).place → byt (X.C j).data
theorem Cl.bt {n : Nat} {X0 X : Dst} (h : Cl n X0 X) (hb : ∀ c, isTb n c → byt (X0.S c.toNat).data) : Bt n X :=
  ⟨fun c hc => by rw [h.s c hc]; exact hb c hc, fun j hj hc => absurd hc (h.c j hj)⟩
theorem Tb.bt {n : Nat} {X0 X : Dst} {r : Int} {P : Nat → Int} (h : Tb n X0 r P X) (hP : byt P) (hb : ∀ c, isTb n c → byt (X0.S c.toNat).data) : Bt n X :=
  ⟨fun c hc => by rw [h.s c hc]; exact hb c hc, fun j hj hc => by rw [(h.c j hj hc).2]; exact hP⟩
theorem Bt.st {n : Nat} {X : Dst} (h : Bt n X) (hf : formed n X) (h0 : halfN n ≠ 0) (K : Nat → Bool) {c : Int} (hc : isTb n c) : byt (stS X.S X.C K X.m c.toNat).data := by
  rcases st_at (n := n) (S := X.S) (C := X.C) (K := K) (isTb_bd h0 hc).1 X.m (formed_n hf).2 with g1 | ⟨j, j1, j2, _, j4⟩
  · rw [g1]; exact h.s c hc
  · rw [j4]; exact h.c j j1 (by rw [j2]; exact hc)
theorem Bt.fl {n : Nat} {X : Dst} (h : Bt n X) (hf : formed n X) (h0 : halfN n ≠ 0) : Bt n (dFl n X) := by
  refine ⟨fun c hc => ?_, fun j hj hc => ?_⟩
  · show byt (flS n X.m X.S X.C X.f X.d c.toNat).data
    unfold flS
    split
    · exact h.st hf h0 _ hc
    · exact h.s c hc
  · have hj' : j < flM n X.m X.C X.f X.d := hj
    unfold flM at hj'
    split at hj'
    · omega
    · exact h.c j hj' hc
theorem byt_zero : byt fun _ => 0 := fun _ _ => ⟨Int.le_refl 0, by show (0 : Int) < 256; decide⟩
theorem Bt.ld {n : Nat} {X : Dst} (h : Bt n X) (h0 : halfN n ≠ 0) (hm : X.m = 0) (hd : X.d = false) {i : Nat} (hi : i < 4) : byt (ldV n X i) := by
  rw [(ld_at hi h0 hm hd).2]
  split
  · exact byt_zero
  · exact h.s _ (ldA_tb hi)
theorem Bt.cr {n : Nat} {X : Dst} (h : Bt n X) (hf : formed n X) (h0 : halfN n ≠ 0) (K : Nat → Bool) : Bt n (cr X K) :=
  ⟨fun _ hc => h.st hf h0 K hc, fun j hj => absurd hj (Nat.not_lt_zero j)⟩
/-- RY: a write whose power stays; RZ: with any fuse; K: what the crash behind it keeps -/
structure WholeOk (n : Nat) (X0 : Dst) (M : Tab) (K : Nat → Bool) (RY RZ : Int × Dst × Tab) : Prop where
  e : RZ.1 = RY.1 ∨ RZ.1 = 3
  f : formed n RZ.2.1
  b : (∀ c, isTb n c → byt (X0.S c.toNat).data) → Bt n RZ.2.1
  l : ∃ j, ldI n (cr RZ.2.1 K) 4 = some j ∧ ((ldT n (cr RZ.2.1 K) (some j) = M ∧ (RZ.1 = 0 → RY.2.2 = M)) ∨ (RY.1 = 0 ∧ Like (ldT n (cr RZ.2.1 K) (some j)) RY.2.2 ∧ RY.2.2.gen = M.gen + 1))
theorem ldT_congr {n : Nat} {A B : Dst} {i j : Nat} (h : ldV n A i = ldV n B j) : ldT n A (some i) = ldT n B (some j) := by
  simp only [ldT]
  rw [h]
theorem fl_well {n : Nat} {X : Dst} (hf : formed n X) (hd : X.d = false) (hn : X.f < 0) : dFlE n X = 0 := by
  unfold dFlE flE
  rw [show formedB n X.m X.C = true from hf, if_pos rfl, hd]
  exact (act_neg hn).1

theorem whole {n : Nat} {X0 : Dst} {q : Int} {j0 : Nat} (hm : X0.m = 0) (hd : X0.d = false) (hf : formed n X0) (h0 : halfN n ≠ 0) (hj : ldI n X0 4 = some j0) (hw : ∀ c, isTb n c → (X0.S c.toNat).noWrite = false) (x : Int) (V : Nat → Int) (K : Nat → Bool) :
    WholeOk n X0 (ldT n X0 (some j0)) K (wRes n (fuse X0 (-1)) (ldT n X0 (some j0)) x V) (wRes n (fuse X0 q) (ldT n X0 (some j0)) x V) := by
  have hMg : (ldT n X0 (some j0)).gen = tkA (ldV n X0 j0) := rfl
  have hMT : ∀ (A : Dst) (i : Nat), ldV n A i = ldV n X0 j0 → ldT n A (some i) = ldT n X0 (some j0) := fun A i h => ldT_congr h
  generalize ldT n X0 (some j0) = M at hMg hMT ⊢
  have hs : Sim (fuse X0 (-1)) (fuse X0 q) := ⟨rfl, rfl, rfl, hd, hd, by show (-1 : Int) < 0; decide⟩
  have cY : Cl n X0 (fuse X0 (-1)) := ⟨hf, fun _ _ => rfl, fun j hj => by have h1 : j < X0.m := hj; omega⟩
  have cZ : Cl n X0 (fuse X0 q) := ⟨hf, fun _ _ => rfl, fun j hj => by have h1 : j < X0.m := hj; omega⟩
  have hho : ∀ y, homeB n (fuse X0 q) M.gen M.k M.F M.T y = homeB n (fuse X0 (-1)) M.gen M.k M.F M.T y := fun _ => rfl
  generalize fuse X0 (-1) = Y at hs cY hho ⊢
  generalize fuse X0 q = Z at hs cZ hho ⊢
  have done : ∀ (E : Int) (X : Dst) (RY : Int × Dst × Tab), Cl n X0 X → (E = RY.1 ∨ E = 3) → (E = 0 → RY.2.2 = M) → WholeOk n X0 M K RY (E, X, M) := by
    intro E X RY hc he hz
    obtain ⟨j1, h1, h2⟩ := crash_cl (K := K) hc h0 hm hd hj
    exact ⟨he, hc.f, hc.bt, j1, h1, .inl ⟨hMT _ _ h2, hz⟩⟩
  cases hom : homeB n Y M.gen M.k M.F M.T x with
  | false =>
    rw [w_c0 hom, w_c0 ((hho x).trans hom)]
    exact done 1 Z _ cZ (.inl rfl) (fun e => absurd e (by decide))
  | true =>
    have homZ := (hho x).trans hom
    obtain ⟨_, hr, hl⟩ := home_all hom
    have ha : ¬ isTb n (wA M x) := by
      rintro ⟨r, r0, r1, e⟩
      have := (at_place hr hl).2.2.1 r r0 r1
      rcases e with e | e
      · exact this.1 e
      · exact this.2 e
    have c1 : Cl n X0 (w1X n Z M x V) := cZ.wr ha
    have c1Y : Cl n X0 (w1X n Y M x V) := cY.wr ha
    rcases sim_wr (n := n) hs (wA M x) V with ⟨hE1, hS1⟩ | h3
    rotate_left
    · rw [w_c1 homZ (by rw [h3]; decide)]
      exact done _ _ _ c1 (.inr h3) (fun e => absurd (h3.symm.trans e) (by decide))
    by_cases e1 : dWrE n Y (wA M x) = 2
    rotate_left
    · rw [w_c1 hom e1, w_c1 homZ (by rw [hE1]; exact e1)]
      exact done _ _ _ c1 (.inl hE1) (fun _ => rfl)
    have e1Z := hE1.trans e1
    have c2 : Cl n X0 (w2X n Z M x V) := c1.spX h0
    have c2Y : Cl n X0 (w2X n Y M x V) := c1Y.spX h0
    rcases sim_sp (n := n) (k := M.k) (T := M.T) (V := V) hS1 with ⟨hE2, hTo, hS2⟩ | h3
    rotate_left
    · rw [w_c2 homZ e1Z (fun e => absurd (h3.symm.trans e) (by decide))]
      exact done _ _ _ c2 (.inr h3) (fun e => absurd (h3.symm.trans e) (by decide))
    by_cases e2 : spE n M.k M.T V (w1X n Y M x V) = 0
    rotate_left
    · rw [w_c2 hom e1 e2, w_c2 homZ e1Z (fun e => e2 (hE2.symm.trans e))]
      exact done _ _ _ c2 (.inl hE2) (fun _ => rfl)
    have e2Z : spE n M.k M.T V (w1X n Z M x V) = 0 := hE2.trans e2
    have c3 : Cl n X0 (w3X n Z M x V) := c2.fl h0
    have c3Y : Cl n X0 (w3X n Y M x V) := c2Y.fl h0
    rcases sim_fl (n := n) hS2 c2Y.f with ⟨hE3, hY3, hS3⟩ | h3
    rotate_left
    · rw [w_c3 homZ e1Z e2Z (fun e => absurd (h3.symm.trans e) (by decide))]
      exact done _ _ _ c3 (.inr h3) (fun e => absurd (h3.symm.trans e) (by decide))
    have e3 : dFlE n (w2X n Y M x V) = 0 := hY3
    have e3Z : dFlE n (w2X n Z M x V) = 0 := hE3.trans hY3
    have hN : wN n Z M x V = wN n Y M x V := congrArg (M.next x) hTo
    have hNg : (wN n Y M x V).gen = M.gen + 1 := rfl
    have u4Y : w4E n Y M x V = lyE n (w3X n Y M x V) (wN n Y M x V).gen (wN n Y M x V).k (wN n Y M x V).F (wN n Y M x V).T := rfl
    have u4Z : w4E n Z M x V = lyE n (w3X n Z M x V) (wN n Z M x V).gen (wN n Z M x V).k (wN n Z M x V).F (wN n Z M x V).T := rfl
    have x4Y : w4X n Y M x V = lyX n (w3X n Y M x V) (wN n Y M x V).gen (wN n Y M x V).k (wN n Y M x V).F (wN n Y M x V).T := rfl
    have x4Z : w4X n Z M x V = lyX n (w3X n Z M x V) (wN n Z M x V).gen (wN n Z M x V).k (wN n Z M x V).F (wN n Z M x V).T := rfl
    have q4 := @w_c4 n Y M x V hom e1 e2 e3
    have q4Z := @w_c4 n Z M x V homZ e1Z e2Z e3Z
    have q5Z := @w_c5 n Z M x V homZ e1Z e2Z e3Z
    have q6 := @w_c6 n Y M x V hom e1 e2 e3
    have q6Z := @w_c6 n Z M x V homZ e1Z e2Z e3Z
    rw [hN] at u4Z x4Z q6Z
    unfold lyE at u4Y u4Z
    unfold lyX at x4Y x4Z
    rw [c3Y.f.hf] at u4Y x4Y
    rw [c3.f.hf] at u4Z x4Z
    have hS3' : Sim (w3X n Y M x V) (w3X n Z M x V) := hS3
    generalize wN n Y M x V = N at *
    generalize w3X n Y M x V = Y3 at *
    generalize w3X n Z M x V = Z3 at *
    by_cases hp : putEr n N.gen N.k N.F N.T = 0
    rotate_left
    · rw [if_neg hp] at u4Y u4Z x4Y x4Z
      rw [q4 (by rw [u4Y]; exact hp), q4Z (by rw [u4Z]; exact hp), u4Y, u4Z, x4Z]
      exact done _ _ _ c3 (.inl rfl) (fun _ => rfl)
    rw [if_pos hp] at u4Y u4Z x4Y x4Z
    obtain ⟨hlike, hP, hg⟩ := like_put hp rfl
    have hPb : byt (putV n N.gen N.k N.F N.T) := fun i _ => putV_byt _ _ _ _ _ i
    generalize putV n N.gen N.k N.F N.T = P at *
    have hr2 : 0 ≤ N.gen % 2 ∧ N.gen % 2 < 2 := by omega
    have hrr : N.gen % 2 = (tkA (ldV n X0 j0) + 1) % 2 := by rw [hNg, hMg]
    have hgg : tkA P = tkA (ldV n X0 j0) + 1 := by rw [hg, hNg, hMg]
    generalize hre : N.gen % 2 = r at *
    have wellY : lyE' n (halfN n) r P Y3 = 0 := ly_well c3Y.f hS3'.dy hS3'.fy h0 hr2 (fun c hc => by rw [c3Y.s c hc]; exact hw c hc)
    have sYY : Sim Y3 Y3 := ⟨rfl, rfl, rfl, hS3'.dy, hS3'.dy, hS3'.fy⟩
    have e5Y : dFlE n (w4X n Y M x V) = 0 := by
      rw [x4Y]
      rcases sim_ly (n := n) (hh := halfN n) (r := r) (P := P) sYY with ⟨_, h⟩ | h
      · exact fl_well c3Y.f.ly h.dy h.fy
      · exact absurd (wellY.symm.trans h) (by decide)
    have RY := q6 (u4Y.trans wellY) e5Y
    rw [RY]
    have T4 : Tb n X0 r P (lyX' n (halfN n) r P Z3) := c3.tb.ly
    have done2 : ∀ (E : Int) (X W : Dst), Tb n X0 r P X → E = 3 → WholeOk n X0 M K (0, W, N) (E, X, M) := by
      intro E X W hc he
      obtain ⟨j1, h1, h2⟩ := crash_tb (K := K) hc h0 hm hd hj hrr hP hgg
      refine ⟨.inr he, hc.f, hc.bt hPb, j1, h1, ?_⟩
      rcases h2 with h2 | h2
      · exact .inl ⟨hMT _ _ h2, fun e => absurd (he.symm.trans e) (by decide)⟩
      · refine .inr ⟨rfl, ?_, hNg⟩
        show Like (ldT n (cr X K) (some j1)) N
        simp only [ldT]
        rw [h2]
        exact hlike
    rcases sim_ly (n := n) (hh := halfN n) (r := r) (P := P) hS3' with ⟨hE4, hS4⟩ | h3
    rotate_left
    · rw [q4Z (fun e => absurd ((u4Z.trans h3).symm.trans e) (by decide)), x4Z]
      exact done2 _ _ _ T4 (u4Z.trans h3)
    have e4Z : lyE' n (halfN n) r P Z3 = 0 := hE4.trans wellY
    by_cases e5 : dFlE n (w4X n Z M x V) = 0
    · rw [q6Z (u4Z.trans e4Z) e5]
      rw [x4Z] at e5 ⊢
      have nb0 : ¬ bad (lyC n (halfN n) r P Z3 0) := fun hb => by
        have h1 := (ly_bad (n := n) (hh := halfN n) (r := r) (V := P) (X := Z3) 0 (by omega) (fun c hc => by omega) hb).1
        rw [e4Z] at h1
        exact hb.1 h1.symm
      have nb1 : ¬ bad (lyC n (halfN n) r P Z3 1) := fun hb => by
        have h1 := (ly_bad (n := n) (hh := halfN n) (r := r) (V := P) (X := Z3) 1 (by omega) (fun c hc => by
          obtain rfl : c = 0 := by omega
          exact nb0) hb).1
        rw [e4Z] at h1
        exact hb.1 h1.symm
      have t0 : isTb n (((0 : Nat) : Int) * halfN n + r) := ⟨r, hr2.1, hr2.2, .inl (by simp)⟩
      have c0 : lyC n (halfN n) r P Z3 0 = 0 := by
        rcases sim_wr (n := n) hS3' (((0 : Nat) : Int) * halfN n + r) P with ⟨h1, _⟩ | h1
        · exact h1.trans (wr_well c3Y.f hS3'.dy hS3'.fy ⟨(isTb_bd h0 t0).1, (isTb_bd h0 t0).2.1⟩ (by rw [c3Y.s _ t0]; exact hw _ t0))
        · exact absurd (show bad (lyC n (halfN n) r P Z3 0) from by rw [show lyC n (halfN n) r P Z3 0 = 3 from h1]; exact ⟨by decide, by decide⟩) nb0
      obtain ⟨j1, h1, h2⟩ := crash_full (K := K) c3 h0 hm hd hj hrr hP hgg c0 nb1 e5
      refine ⟨.inl rfl, T4.f.fl, fun hb => (T4.bt hPb hb).fl T4.f h0, j1, h1, .inr ⟨rfl, ?_, hNg⟩⟩
      show Like (ldT n (cr (dFl n (lyX' n (halfN n) r P Z3)) K) (some j1)) N
      simp only [ldT]
      rw [h2]
      exact hlike
    · rw [q5Z (u4Z.trans e4Z) e5]
      have h3 : dFlE n (w4X n Z M x V) = 3 := by
        rw [x4Z] at e5 ⊢
        rcases sim_fl (n := n) hS4 c3Y.f.ly with ⟨h1, h2, _⟩ | h1
        · exact absurd (h1.trans h2) e5
        · exact h1
      rw [x4Z] at e5 h3 ⊢
      exact done2 _ _ _ (T4.fl_no e5) h3
end Rm
end Go.Proofs.YtllejfnmbpjhaaaDoor
