/- A region that draws its order: operations that read and call quietly (in whatever class of worlds), then a tail that waits for all of them: one walk in the order of the text. -/
import Derived.Deep.QuietTactic
import Derived.BigQuiet
import Derived.Orders
namespace Go.Proofs.Ytnmljjehkdbbjaa
set_option maxRecDepth 20000
namespace QuietTail2
open Go

variable {P : Program}

/-- every operation waits for earlier ones alone; those before n bear no guard; those from n on wait for all of those, and each for the one before it -/
def backB (ops : Array Oper) (n : Nat) : Bool :=
  (List.range ops.size).all fun i => match ops[i]? with
    | some o => (o.after.all fun e => !Region.binds .any e || decide (e.on < i)) && (if i < n then o.guard == none else (List.range n).all (fun j => o.after.any fun e => Region.binds .any e && e.on == j) && (i == n || o.after.any fun e => Region.binds .any e && e.on == i - 1))
    | none => true

structure Back (ops : Array Oper) (n : Nat) : Prop where
  back : ∀ (i : Nat) (o : Oper), ops[i]? = some o → ∀ e ∈ o.after, Region.binds .any e = true → e.on < i
  free : ∀ (i : Nat) (o : Oper), ops[i]? = some o → i < n → o.guard = none
  wait : ∀ (i : Nat) (o : Oper), ops[i]? = some o → n ≤ i → ∀ j, j < n → ∃ e ∈ o.after, Region.binds .any e = true ∧ e.on = j
  chain : ∀ (i : Nat) (o : Oper), ops[i]? = some o → n < i → ∃ e ∈ o.after, Region.binds .any e = true ∧ e.on = i - 1

theorem back_of {ops : Array Oper} {n : Nat} (h : backB ops n = true) : Back ops n := by
  have key : ∀ (i : Nat) (o : Oper), ops[i]? = some o → (o.after.all fun e => !Region.binds .any e || decide (e.on < i)) = true ∧ (if i < n then o.guard == none else (List.range n).all (fun j => o.after.any fun e => Region.binds .any e && e.on == j) && (i == n || o.after.any fun e => Region.binds .any e && e.on == i - 1)) = true := by
    intro i o ho
    have hi : i < ops.size := (Array.getElem?_eq_some_iff.1 ho).1
    have h1 := List.all_eq_true.1 h i (List.mem_range.2 hi)
    simp only [ho, Bool.and_eq_true] at h1
    exact h1
  refine ⟨fun i o ho e he hbd => ?_, fun i o ho hi => ?_, fun i o ho hi j hj => ?_, fun i o ho hi => ?_⟩
  · have h1 := Array.all_eq_true'.1 (key i o ho).1 e he
    simpa [hbd] using h1
  · have h1 := (key i o ho).2
    rw [if_pos hi] at h1
    simpa using h1
  · have h1 := (key i o ho).2
    rw [if_neg (by omega)] at h1
    have h2 := List.all_eq_true.1 (Bool.and_eq_true_iff.1 h1).1 j (List.mem_range.2 hj)
    obtain ⟨e, he, hb⟩ := Array.any_eq_true'.1 h2
    simp only [Bool.and_eq_true, beq_iff_eq] at hb
    exact ⟨e, he, hb.1, hb.2⟩
  · have h1 := (key i o ho).2
    rw [if_neg (by omega)] at h1
    have h2 := (Bool.and_eq_true_iff.1 h1).2
    rw [show (i == n) = false by rw [beq_eq_false_iff_ne]; omega, Bool.false_or] at h2
    obtain ⟨e, he, hb⟩ := Array.any_eq_true'.1 h2
    simp only [Bool.and_eq_true, beq_iff_eq] at hb
    exact ⟨e, he, hb.1, hb.2⟩

/-- the tail: all before k has come up -/
theorem seq {ops : Array Oper} {n : Nat} {Q : Exit → Act → World → Prop} (B : Back ops n) : ∀ (l : List Oper) (k f : Nat) (listed : Array Bool) (a : Act) (w : World),
    n ≤ k → k + l.length = ops.size → l.length ≤ f → (∀ j, l[j]? = ops[k + j]?) → listed.size = ops.size → (∀ i, i < k → listed.getD i false = true) → (∀ i, k ≤ i → listed.getD i false = false) →
    wpList P ops Q l a w → wpAny P .any ops Q f listed a w := by
  intro l
  induction l with
  | nil =>
    intro k f listed a w hk hlen hf hl hs h1 h2 h
    have hr : Region.ready .any ops listed = [] := by
      cases hc : Region.ready .any ops listed with
      | nil => rfl
      | cons i r =>
        have hm : i ∈ Region.ready .any ops listed := by rw [hc]; simp
        obtain ⟨hun, o, ho, _⟩ := mem_ready.1 hm
        have hi : i < ops.size := (Array.getElem?_eq_some_iff.1 ho).1
        have := h1 i (by simp at hlen; omega)
        have hi' : i < listed.size := by omega
        simp [hi'] at hun this
        rw [this] at hun; cases hun
    cases f with
    | zero => exact ⟨hr, h⟩
    | succ f => exact ⟨fun _ => h, fun i hi => by rw [hr] at hi; cases hi⟩
  | cons o l ih =>
    intro k f listed a w hk hlen hf hl hs h1 h2 h
    have h0 : ops[k]? = some o := by simpa using (hl 0).symm
    have hks : k < ops.size := (Array.getElem?_eq_some_iff.1 h0).1
    obtain ⟨f, rfl⟩ : ∃ g, f = g + 1 := ⟨f - 1, by simp at hf; omega⟩
    have hkr : k ∈ Region.ready .any ops listed := by
      refine mem_ready.2 ⟨?_, o, h0, fun e he hb => h1 e.on (B.back k o h0 e he hb)⟩
      have := h2 k (Nat.le_refl _)
      have hk' : k < listed.size := by omega
      simp [hk'] at this ⊢; exact this
    refine ⟨fun hr => (by rw [hr] at hkr; cases hkr), fun i hi => ?_⟩
    obtain ⟨hun, oi, hoi, hall⟩ := mem_ready.1 hi
    have his : i < ops.size := (Array.getElem?_eq_some_iff.1 hoi).1
    have hik : i = k := by
      rcases Nat.lt_trichotomy i k with hlt | heq | hgt
      · have := h1 i hlt
        have hi' : i < listed.size := by omega
        simp [hi'] at hun this
        rw [this] at hun; cases hun
      · exact heq
      · obtain ⟨e, he, hb, hon⟩ := B.chain i oi hoi (by omega)
        have := hall e he hb
        rw [hon, h2 (i - 1) (by omega)] at this
        cases this
    subst hik
    have hw : wpOp P ops Q i (wpList P ops Q l) a w := by unfold wpOp; simp only [h0]; exact h
    refine wpOp_mono (fun a' w' h' => ?_) hw
    refine ih (i + 1) f (listed.setIfInBounds i true) a' w' (by omega) (by simp only [List.length_cons] at hlen; omega) (by simp only [List.length_cons] at hf; omega)
      (fun j => by have := hl (j + 1); simpa [Nat.add_assoc, Nat.add_comm 1 j] using this) (by simpa using hs) (fun j hj => ?_) (fun j hj => ?_) h'
    · by_cases hji : i = j
      · subst hji
        have hi' : i < listed.size := by omega
        simp [hi']
      · have := h1 j (by omega)
        simp only [Array.getD_eq_getD_getElem?, Array.getElem?_setIfInBounds, if_neg hji] at this ⊢
        exact this
    · have hji : ¬ i = j := by omega
      have := h2 j (by omega)
      simp only [Array.getD_eq_getD_getElem?, Array.getElem?_setIfInBounds, if_neg hji] at this ⊢
      exact this

theorem getD_replicate_false' (m j : Nat) : (Array.replicate m false).getD j false = false := by
  rcases Nat.lt_or_ge j m with h | h
  · simp [h]
  · simp [h]

structure Inv' (l : List Oper) (n : Nat) (listed head : Array Bool) : Prop where
  size : listed.size = l.length
  hsize : head.size = n
  same : ∀ i, i < n → listed.getD i false = head.getD i false
  tail : ∀ i, n ≤ i → listed.getD i false = false

theorem getD_tf {listed : Array Bool} {i : Nat} (hi : i < listed.size) : listed.getD i true = listed.getD i false := by simp [hi]

theorem Inv'.ready {l : List Oper} {n : Nat} {listed head : Array Bool} (v : Inv' l n listed head) (B : Back l.toArray n) (hn : n ≤ l.length) {i : Nat} (hi : i < n) :
    i ∈ Region.ready .any l.toArray listed ↔ i ∈ Region.ready .any (l.take n).toArray head := by
  have e : (l.take n).toArray[i]? = l.toArray[i]? := by simp [hi]
  have hl : i < listed.size := by have := v.size; omega
  have hh : i < head.size := by have := v.hsize; omega
  rw [mem_ready, mem_ready, e, getD_tf hl, getD_tf hh, v.same i hi]
  constructor
  · rintro ⟨h1, o, ho, h2⟩
    exact ⟨h1, o, ho, fun e' he hb => (v.same e'.on (Nat.lt_trans (B.back i o ho e' he hb) hi)).symm.trans (h2 e' he hb)⟩
  · rintro ⟨h1, o, ho, h2⟩
    exact ⟨h1, o, ho, fun e' he hb => (v.same e'.on (Nat.lt_trans (B.back i o ho e' he hb) hi)).trans (h2 e' he hb)⟩

/-- either all of the head has come up, or something of it may -/
theorem Inv'.least {l : List Oper} {n : Nat} {listed head : Array Bool} (v : Inv' l n listed head) (B : Back l.toArray n) (hn : n ≤ l.length) :
    (∀ i, i < n → head.getD i false = true) ∨ ∃ i, i < n ∧ i ∈ Region.ready .any l.toArray listed := by
  by_cases h : ∃ i, i < n ∧ head.getD i false = false
  · right
    have least : ∀ (k i : Nat), i ≤ k → i < n → head.getD i false = false → ∃ j, j < n ∧ head.getD j false = false ∧ ∀ m, m < j → head.getD m false = true := by
      intro k
      induction k with
      | zero => intro i hk hi hf; exact ⟨i, hi, hf, fun m hm => by omega⟩
      | succ k ih =>
        intro i hk hi hf
        by_cases hm : ∃ m, m < i ∧ head.getD m false = false
        · obtain ⟨m, hmi, hmf⟩ := hm
          exact ih m (by omega) (by omega) hmf
        · refine ⟨i, hi, hf, fun m hmi => ?_⟩
          cases hv : head.getD m false with
          | true => rfl
          | false => exact absurd ⟨m, hmi, hv⟩ hm
    obtain ⟨i, hi, hf⟩ := h
    obtain ⟨j, hj, hjf, hall⟩ := least i i (Nat.le_refl _) hi hf
    have ho : l.toArray[j]? = some l[j] := by simp [Nat.lt_of_lt_of_le hj hn]
    have hl : j < listed.size := by have := v.size; omega
    refine ⟨j, hj, mem_ready.2 ⟨by rw [getD_tf hl, v.same j hj]; exact hjf, l[j], ho, fun e he hbd => ?_⟩⟩
    have hlt := B.back j _ ho e he hbd
    rw [v.same e.on (by omega)]
    exact hall e.on hlt
  · left
    intro i hi
    cases hv : head.getD i false with
    | true => rfl
    | false => exact absurd ⟨i, hi, hv⟩ h

theorem Inv'.set {l : List Oper} {n i : Nat} {listed head : Array Bool} (v : Inv' l n listed head) (hi : i < n) (hn : n ≤ l.length) : Inv' l n (listed.setIfInBounds i true) (head.setIfInBounds i true) := by
  refine ⟨by simpa using v.size, by simpa using v.hsize, fun j hj => ?_, fun j hj => ?_⟩
  · by_cases hij : i = j
    · subst hij
      have h1 := v.size
      have h2 := v.hsize
      simp [show i < listed.size from by omega, show i < head.size from by omega]
    · have := v.same j hj
      simp only [Array.getD_eq_getD_getElem?, Array.getElem?_setIfInBounds, if_neg hij] at this ⊢
      exact this
  · have hij : ¬ i = j := by omega
    have := v.tail j hj
    simp only [Array.getD_eq_getD_getElem?, Array.getElem?_setIfInBounds, if_neg hij] at this ⊢
    exact this

theorem walk {C : World → Prop} {l : List Oper} {n : Nat} {Q : Exit → Act → World → Prop} (B : Back l.toArray n) (hn : n ≤ l.length) : ∀ (f : Nat) (listed head : Array Bool) (a : Act) (w : World), Inv' l n listed head → C w →
    wpAnyQ P .any (l.take n).toArray C (fun a' => ∀ w', C w' → wpList P l.toArray Q (l.drop n) a' w') f head a → wpAny P .any l.toArray Q (f + (l.length - n)) listed a w := by
  intro f
  induction f with
  | zero =>
    intro listed head a w v hw h
    rcases v.least B hn with hall | ⟨i, hi, hr⟩
    · exact seq B (l.drop n) n _ listed a w (Nat.le_refl _) (by simp; omega) (by simp) (fun j => by simp) (by simpa using v.size) (fun i hi => (v.same i hi).trans (hall i hi)) v.tail (h.2 w hw)
    · have := (v.ready B hn hi).1 hr
      rw [h.1] at this; cases this
  | succ f ih =>
    intro listed head a w v hw h
    rcases v.least B hn with hall | ⟨i, hi, hr⟩
    · have h0 : Region.ready .any (l.take n).toArray head = [] := by
        cases hc : Region.ready .any (l.take n).toArray head with
        | nil => rfl
        | cons j r =>
          have hm : j ∈ Region.ready .any (l.take n).toArray head := by rw [hc]; simp
          obtain ⟨hun, o, ho, _⟩ := mem_ready.1 hm
          have hj : j < (l.take n).toArray.size := (Array.getElem?_eq_some_iff.1 ho).1
          have hjn : j < n := by simp at hj; omega
          rw [getD_tf (by have := v.hsize; omega), hall j hjn] at hun
          cases hun
      exact seq B (l.drop n) n _ listed a w (Nat.le_refl _) (by simp; omega) (by simp) (fun j => by simp) (by simpa using v.size) (fun i hi => (v.same i hi).trans (hall i hi)) v.tail (h.1 h0 w hw)
    · rw [show f + 1 + (l.length - n) = (f + (l.length - n)) + 1 by omega]
      refine ⟨fun h0 => (by rw [h0] at hr; cases hr), fun j hj => ?_⟩
      obtain ⟨hun, oj, hoj, hallj⟩ := mem_ready.1 hj
      have hjn : j < n := by
        rcases Nat.lt_or_ge j n with hlt | hge
        · exact hlt
        · obtain ⟨e, he, hb, hon⟩ := B.wait j oj hoj hge i (by omega)
          have h1 := hallj e he hb
          obtain ⟨hun', _⟩ := mem_ready.1 hr
          rw [getD_tf (by have := v.size; omega)] at hun'
          rw [hon, hun'] at h1
          cases h1
      have hq := h.2 j ((v.ready B hn hjn).1 hj)
      have hq' : qOp P l.toArray C j (wpAnyQ P .any (l.take n).toArray C (fun a' => ∀ w', C w' → wpList P l.toArray Q (l.drop n) a' w') f (head.setIfInBounds j true)) a := by
        have e : (l.take n).toArray[j]? = l.toArray[j]? := by simp [hjn]
        unfold qOp at hq ⊢
        rw [e, hoj] at hq
        rw [hoj]
        have hg := B.free j oj hoj hjn
        simp only [Region.wanted, hg, if_true] at hq ⊢
        exact hq
      exact wpOp_of_qOp hw (fun a' w' hw' h' => ih _ _ a' w' (v.set hjn hn) hw' h') hq'

/-- ONE WALK IN THE ORDER OF THE TEXT: n operations that read and call quietly in the class C, then the rest, which waits for them all. -/
theorem region {C : World → Prop} {id n : Nat} {l : List Oper} {Q : Exit → Act → World → Prop} {a : Act} {w : World} (hm : P.follows .mixedOrders = true) (hn : n ≤ l.length) (hB : backB l.toArray n = true)
    (hlex : Region.lexB .any (l.take n).toArray = true) (hC : C { w with drawn := w.drawn + 1 })
    (h : wpQuiet P (l.take n).toArray C (fun a' => ∀ w', C w' → wpList P l.toArray Q (l.drop n) a' w') (l.take n) a) : (Code.region id l.toArray true).wp P Q a w := by
  have B := back_of hB
  simp only [Region.lexB, Bool.and_eq_true] at hlex
  refine wp_region_any hm ?_
  have H := wpAnyQ_lex (C := C) (md := .any) hlex.1 (l.take n) 0 (Array.replicate (l.take n).toArray.size false) a (by simp) (by simpa using hlex.2) h
  have hlen : (l.take n).length = n := by simp; omega
  rw [hlen] at H
  have V : Inv' l n (Array.replicate l.toArray.size false) (Array.replicate (l.take n).toArray.size false) := by
    refine ⟨by simp, by simp; omega, fun i hi => ?_, fun i hi => ?_⟩
    · rw [getD_replicate_false', getD_replicate_false']
    · rw [getD_replicate_false']
  have R := walk (Q := Q) B hn n _ _ a { w with drawn := w.drawn + 1 } V hC H
  rw [show n + (l.length - n) = l.toArray.size by simp; omega] at R
  exact R

/-! THE SAME BY AN INVARIANT: operations whose value hangs on the order (a new block's number), calls that make memory. -/

/-- how many of the first n have not come up -/
def cnt (L : Nat → Bool) : Nat → Nat
  | 0 => 0
  | n + 1 => cnt L n + (if L n then 0 else 1)
theorem cnt_le {L M : Nat → Bool} (h : ∀ i, L i = true → M i = true) : ∀ n, cnt M n ≤ cnt L n
  | 0 => Nat.le_refl _
  | n + 1 => by
    have ih := cnt_le h n
    simp only [cnt]
    by_cases hl : L n = true
    · rw [if_pos hl, if_pos (h n hl)]; omega
    · rw [if_neg hl]; split <;> omega
theorem cnt_lt {L M : Nat → Bool} (h : ∀ i, L i = true → M i = true) {i : Nat} (hi : L i = false) (hm : M i = true) : ∀ n, i < n → cnt M n + 1 ≤ cnt L n
  | 0, hn => by omega
  | n + 1, hn => by
    simp only [cnt]
    by_cases hin : i = n
    · subst hin
      have := cnt_le h i
      rw [if_pos hm, hi, if_neg (by simp)]; omega
    · have ih := cnt_lt h hi hm n (by omega)
      by_cases hl : L n = true
      · rw [if_pos hl, if_pos (h n hl)]; omega
      · rw [if_neg hl]; split <;> omega
theorem cnt_zero {L : Nat → Bool} : ∀ n, cnt L n = 0 → ∀ i, i < n → L i = true
  | 0, _, i, hi => by omega
  | n + 1, h, i, hi => by
    simp only [cnt] at h
    by_cases hl : L n = true
    · rw [if_pos hl] at h
      by_cases hin : i = n
      · subst hin; exact hl
      · exact cnt_zero n (by omega) i (by omega)
    · rw [if_neg hl] at h; omega
theorem cnt_all : ∀ n, cnt (fun _ => false) n = n
  | 0 => rfl
  | n + 1 => by simp only [cnt]; rw [cnt_all n]; simp

theorem walkInv {l : List Oper} {n : Nat} {Q : Exit → Act → World → Prop} {Inv : (Nat → Bool) → Act → World → Prop} (B : Back l.toArray n) (hn : n ≤ l.length)
    (hstep : ∀ (i : Nat) (o : Oper), i < n → l[i]? = some o → ∀ (L : Nat → Bool) (a : Act) (w : World), Inv L a w → L i = false → (∀ j, (o.after.any fun e => Region.binds .any e && e.on == j) = true → L j = true) →
      o.wp P a w (fun a' w' => Inv (fun j => j == i || L j) a' w') Q)
    (hend : ∀ (L : Nat → Bool) (a : Act) (w : World), (∀ i, i < n → L i = true) → Inv L a w → wpList P l.toArray Q (l.drop n) a w) :
    ∀ (f : Nat) (listed : Array Bool) (a : Act) (w : World), listed.size = l.length → (∀ i, n ≤ i → listed.getD i false = false) → cnt (fun i => listed.getD i false) n ≤ f → Inv (fun i => listed.getD i false) a w →
      wpAny P .any l.toArray Q (f + (l.length - n)) listed a w := by
  intro f
  induction f with
  | zero =>
    intro listed a w hs ht hc h
    have hall := cnt_zero n (Nat.le_zero.1 hc)
    exact seq B (l.drop n) n _ listed a w (Nat.le_refl _) (by simp; omega) (by simp) (fun j => by simp) (by simpa using hs) hall ht (hend _ a w hall h)
  | succ f ih =>
    intro listed a w hs ht hc h
    have V : Inv' l n listed (listed.extract 0 n) := ⟨hs, by simp; omega, fun i hi => by simp only [Array.getD_eq_getD_getElem?, Array.getElem?_extract]; rw [if_pos (by omega)]; simp, ht⟩
    rcases V.least B hn with hall | ⟨i, hi, hr⟩
    · have hall' : ∀ i, i < n → listed.getD i false = true := fun i hi => (V.same i hi).trans (hall i hi)
      exact seq B (l.drop n) n _ listed a w (Nat.le_refl _) (by simp; omega) (by simp) (fun j => by simp) (by simpa using hs) hall' ht (hend _ a w hall' h)
    · rw [show f + 1 + (l.length - n) = (f + (l.length - n)) + 1 by omega]
      refine ⟨fun h0 => (by rw [h0] at hr; cases hr), fun j hj => ?_⟩
      obtain ⟨hun, oj, hoj, hallj⟩ := mem_ready.1 hj
      have hjl : j < l.length := by have := (Array.getElem?_eq_some_iff.1 hoj).1; simpa using this
      have hunf : listed.getD j false = false := by rw [getD_tf (by omega)] at hun; exact hun
      have hjn : j < n := by
        rcases Nat.lt_or_ge j n with hlt | hge
        · exact hlt
        · obtain ⟨e, he, hb, hon⟩ := B.wait j oj hoj hge i (by omega)
          have h1 := hallj e he hb
          obtain ⟨hun', _⟩ := mem_ready.1 hr
          rw [getD_tf (by omega)] at hun'
          rw [hon, hun'] at h1
          cases h1
      have hg := B.free j oj hoj hjn
      have hw := hstep j oj hjn (by simpa using hoj) (fun i => listed.getD i false) a w h hunf (fun j hj => by
        obtain ⟨e, he, hb⟩ := Array.any_eq_true'.1 hj
        simp only [Bool.and_eq_true, beq_iff_eq] at hb
        exact hb.2 ▸ hallj e he hb.1)
      unfold wpOp
      simp only [hoj, Region.wanted, hg, if_true]
      left
      refine Oper.wp_mono (fun a' w' h' => ?_) hw
      have hset : ∀ k, (listed.setIfInBounds j true).getD k false = (k == j || listed.getD k false) := fun k => by
        by_cases hk : j = k
        · subst hk; simp [show j < listed.size by omega]
        · have hk' : (k == j) = false := by simp; omega
          simp only [Array.getD_eq_getD_getElem?, Array.getElem?_setIfInBounds, if_neg hk, hk', Bool.false_or]
      refine ih _ a' w' (by simpa using hs) (fun k hk => ?_) ?_ (by rw [funext hset]; exact h')
      · rw [hset k, ht k hk]; simp; omega
      · have := cnt_lt (L := fun i => listed.getD i false) (M := fun i => (listed.setIfInBounds j true).getD i false) (fun k hk => by rw [hset k, hk]; simp) hunf (by rw [hset j]; simp) n hjn
        omega

/-- n operations in whatever order their binding edges let, by an invariant; then the rest, which waits for them all. -/
theorem regionInv {id n : Nat} {l : List Oper} {Q : Exit → Act → World → Prop} {a : Act} {w : World} {Inv : (Nat → Bool) → Act → World → Prop} (hm : P.follows .mixedOrders = true) (hn : n ≤ l.length) (hB : backB l.toArray n = true)
    (hstart : Inv (fun _ => false) a { w with drawn := w.drawn + 1 })
    (hstep : ∀ (i : Nat) (o : Oper), i < n → l[i]? = some o → ∀ (L : Nat → Bool) (a : Act) (w : World), Inv L a w → L i = false → (∀ j, (o.after.any fun e => Region.binds .any e && e.on == j) = true → L j = true) →
      o.wp P a w (fun a' w' => Inv (fun j => j == i || L j) a' w') Q)
    (hend : ∀ (L : Nat → Bool) (a : Act) (w : World), (∀ i, i < n → L i = true) → Inv L a w → wpList P l.toArray Q (l.drop n) a w) : (Code.region id l.toArray true).wp P Q a w := by
  have B := back_of hB
  refine wp_region_any hm ?_
  have e : (fun i => (Array.replicate l.toArray.size false).getD i false) = fun _ => false := by
    funext i; exact getD_replicate_false' _ _
  have R := walkInv (Q := Q) B hn hstep hend n (Array.replicate l.toArray.size false) a { w with drawn := w.drawn + 1 } (by simp) (fun i _ => getD_replicate_false' _ _) (by rw [e, cnt_all]; exact Nat.le_refl _) (by rw [e]; exact hstart)
  rw [show n + (l.length - n) = l.toArray.size by simp; omega] at R
  exact R

end QuietTail2
end Go.Proofs.Ytnmljjehkdbbjaa
