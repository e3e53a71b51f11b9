/- inode: lay: a right node's bytes, whatever the order of the parts (made by tools/gen_ind.py). -/
import Derived.Test.YtnmljjehkdbbjaaInC
import Derived.Test.YtnmljjehkdbbjaaInP
import Derived.Test.YtnmljjehkdbbjaaQTail2
import Derived.Test.YtnmljjehkdbbjaaRgn
import Derived.Deep.DeepCutAuto
namespace Go.Proofs.Ytnmljjehkdbbjaa
set_option maxRecDepth 20000
namespace In
open Go.RowKit Dk Eqb Byt Pt

/-- the part that byte i is of -/
def ptI (i : Nat) : Nat := if i = 0 then 0 else if i = 1 then 1 else if i = 2 then 2 else if 4 ≤ i ∧ i < 8 then 3 else if 8 ≤ i ∧ i < 48 then 4 else 5
/-- a node's bytes -/
def lyF (n : Nd) (i : Nat) : Int := if i = 0 then Wd.byteAt n.K 0 else if i = 1 then Wd.byteAt n.L 0 else if i = 2 then Wd.byteAt n.c 0 else if 4 ≤ i ∧ i < 8 then Wd.byteAt n.z (i - 4) else if 8 ≤ i ∧ i < 48 then ppF 64 8 n.p (fun _ => 0) i else 0
/-- the parts that were laid -/
def gS (n : Nd) (seen : Array Nat) (i : Nat) : Int := if seen.contains (ptI i) = true then lyF n i else 0
def nmI (n : Nd) : Nat → Int
  | 0 => n.K | 1 => n.L | 2 => n.c | _ => n.z
theorem gS_nil (n : Nd) (i : Nat) : gS n #[] i = 0 := by simp [gS]
theorem ptI_five {i : Nat} (n : Nd) (h : ¬ ptI i < 5) : lyF n i = 0 := by
  unfold ptI at h
  unfold lyF
  have h1 : ¬ i = 0 := fun e => h (by rw [if_pos e]; omega)
  rw [if_neg h1] at h ⊢
  have h2 : ¬ i = 1 := fun e => h (by rw [if_pos e]; omega)
  rw [if_neg h2] at h ⊢
  have h3 : ¬ i = 2 := fun e => h (by rw [if_pos e]; omega)
  rw [if_neg h3] at h ⊢
  have h4 : ¬ (4 ≤ i ∧ i < 8) := fun e => h (by rw [if_pos e]; omega)
  rw [if_neg h4] at h ⊢
  have h5 : ¬ (8 ≤ i ∧ i < 48) := fun e => h (by rw [if_pos e]; omega)
  rw [if_neg h5]
theorem gS_all {n : Nd} {seen : Array Nat} (h : ∀ i, i < 5 → seen.contains i = true) (i : Nat) : gS n seen i = lyF n i := by
  unfold gS
  by_cases h5 : ptI i < 5
  · rw [if_pos (h _ h5)]
  · rw [ptI_five n h5]
    split <;> rfl
theorem gS_push (n : Nd) (seen : Array Nat) (k i : Nat) : gS n (seen.push k) i = if ptI i = k then lyF n i else gS n seen i := by
  unfold gS
  rw [contains_push]
  by_cases h : ptI i = k
  · rw [if_pos h, h]
    simp
  · rw [if_neg h]
    simp [h]
theorem pt_num {k i : Nat} (hk : k < 4) : ptI i = k ↔ (aI k).toNat ≤ i ∧ i < (aI k).toNat + (kI k).toNat := by
  match k, hk with
  | 0, _ => show ptI i = 0 ↔ 0 ≤ i ∧ i < 0 + 1; unfold ptI; split <;> (try split) <;> (try split) <;> (try split) <;> (try split) <;> omega
  | 1, _ => show ptI i = 1 ↔ 1 ≤ i ∧ i < 1 + 1; unfold ptI; split <;> (try split) <;> (try split) <;> (try split) <;> (try split) <;> omega
  | 2, _ => show ptI i = 2 ↔ 2 ≤ i ∧ i < 2 + 1; unfold ptI; split <;> (try split) <;> (try split) <;> (try split) <;> (try split) <;> omega
  | 3, _ => show ptI i = 3 ↔ 4 ≤ i ∧ i < 4 + 4; unfold ptI; split <;> (try split) <;> (try split) <;> (try split) <;> (try split) <;> omega
  | j + 4, h => omega
theorem pt_root {i : Nat} : ptI i = 4 ↔ 8 ≤ i ∧ i < 48 := by
  unfold ptI; split <;> (try split) <;> (try split) <;> (try split) <;> (try split) <;> omega
theorem ly_num (n : Nd) {k i : Nat} (hk : k < 4) (h1 : (aI k).toNat ≤ i) (h2 : i < (aI k).toNat + (kI k).toNat) : lyF n i = Wd.byteAt (nmI n k) (i - (aI k).toNat) := by
  match k, hk with
  | 0, _ =>
    have h2' : i < 0 + 1 := h2
    obtain rfl : i = 0 := by omega
    rfl
  | 1, _ =>
    have h1' : 1 ≤ i := h1
    have h2' : i < 1 + 1 := h2
    obtain rfl : i = 1 := by omega
    rfl
  | 2, _ =>
    have h1' : 2 ≤ i := h1
    have h2' : i < 2 + 1 := h2
    obtain rfl : i = 2 := by omega
    rfl
  | 3, _ =>
    have h1' : 4 ≤ i := h1
    have h2' : i < 4 + 4 := h2
    unfold lyF
    rw [if_neg (by omega), if_neg (by omega), if_neg (by omega), if_pos (by omega)]
    rfl
  | j + 4, h => omega
theorem put_num {n : Nd} {seen : Array Nat} {k : Nat} (hk : k < 4) (hg : Wd.putGood 64 (aI k) (kI k) (nmI n k)) (i : Nat) : Wd.putF 64 (aI k) (kI k) (nmI n k) (gS n seen) i = gS n (seen.push k) i := by
  unfold Wd.putF
  rw [if_pos hg, gS_push]
  unfold mix
  by_cases h : (aI k).toNat ≤ i ∧ i < (aI k).toNat + (kI k).toNat
  · rw [if_pos h, if_pos ((pt_num hk).2 h), ly_num n hk h.1 h.2]
  · rw [if_neg h, if_neg (fun e => h ((pt_num hk).1 e))]
theorem ppG_right {n : Nat} {a : Int} {p : Pn} (h : ppG n a p = true) : rightB p = true := by
  unfold ppG at h
  simp only [Bool.and_eq_true] at h
  exact h.1
theorem pp_in {p : Pn} {f g : Nat → Int} {i : Nat} (hp : ppG 64 8 p = true) (h1 : 8 ≤ i) (h2 : i < 48) : ppF 64 8 p f i = ppF 64 8 p g i := by
  have hg1 : Wd.putGood 64 8 4 (side p.A) := side_good (by omega) (by omega) (right_bd (ppG_right hp)).1
  have hg2 : Wd.putGood 64 (8 + 4) 4 (side p.B) := side_good (by omega) (by omega) (right_bd (ppG_right hp)).2
  unfold ppF
  rw [if_pos hp, if_pos hp]
  unfold mix Wd.putF
  rw [if_pos hg1, if_pos hg1, if_pos hg2, if_pos hg2]
  unfold mix
  split
  · rfl
  · split
    · rfl
    · split
      · rfl
      · skip
        have e1 : (8 + 4 : Int).toNat = 12 := rfl
        have e2 : (8 + 8 : Int).toNat = 16 := rfl
        have e3 : (8 : Int).toNat = 8 := rfl
        have e4 : (4 : Int).toNat = 4 := rfl
        omega
theorem pp_out {p : Pn} {f : Nat → Int} {i : Nat} (h : ¬ (8 ≤ i ∧ i < 48)) : ppF 64 8 p f i = f i := by
  by_cases hp : ppG 64 8 p = true
  · have hg1 : Wd.putGood 64 8 4 (side p.A) := side_good (by omega) (by omega) (right_bd (ppG_right hp)).1
    have hg2 : Wd.putGood 64 (8 + 4) 4 (side p.B) := side_good (by omega) (by omega) (right_bd (ppG_right hp)).2
    unfold ppF
    rw [if_pos hp]
    unfold mix Wd.putF
    rw [if_pos hg1, if_pos hg2]
    unfold mix
    have e1 : (8 + 4 : Int).toNat = 12 := rfl
    have e2 : (8 + 8 : Int).toNat = 16 := rfl
    have e3 : (8 : Int).toNat = 8 := rfl
    have e4 : (4 : Int).toNat = 4 := rfl
    rw [if_neg (by omega), if_neg (by omega), if_neg (by omega)]
  · unfold ppF
    rw [if_neg hp]
theorem put_root {n : Nd} {seen : Array Nat} (hp : ppG 64 8 n.p = true) (i : Nat) : ppF 64 8 n.p (gS n seen) i = gS n (seen.push 4) i := by
  rw [gS_push]
  by_cases h : 8 ≤ i ∧ i < 48
  · rw [if_pos (pt_root.2 h), pp_in (g := fun _ => 0) hp h.1 h.2]
    unfold lyF
    rw [if_neg (by omega), if_neg (by omega), if_neg (by omega), if_neg (by omega), if_pos h]
  · rw [if_neg (fun e => h (pt_root.1 e)), pp_out h]
/-- what lay wants of a node -/
theorem right_lay {n : Nd} (h : rtB n = true) : (∀ k, k < 4 → Wd.putGood 64 (aI k) (kI k) (nmI n k)) ∧ ppG 64 8 n.p = true := by
  obtain ⟨_, hK, hL0, hL1, ⟨hp, hz0, hz1, hc0, hc1⟩, _⟩ := rtB_iff.1 h
  refine ⟨fun k hk => ?_, ?_⟩
  · match k, hk with
    | 0, _ => exact ⟨by decide, by decide, by decide, by decide, by show 0 ≤ n.K; omega, by show n.K / 256 = 0; omega⟩
    | 1, _ => exact ⟨by decide, by decide, by decide, by decide, hL0, by show n.L / 256 = 0; omega⟩
    | 2, _ => exact ⟨by decide, by decide, by decide, by decide, by show 0 ≤ n.c; omega, by show n.c / 256 = 0; omega⟩
    | 3, _ => exact ⟨by decide, by decide, by decide, by decide, hz0, by show n.z / 4294967296 = 0; omega⟩
    | j + 4, h => omega
  · unfold ppG
    rw [hp]
    rfl

/-- the boxes of lay -/
structure Ls (w : World) (n : Nd) (f : Nat → Int) (seen : Array Nat) (wr : World) : Prop where
  bel : Below w.heap.size w wr
  sz : w.heap.size + 6 ≤ wr.heap.size
  nd : Bn wr w.heap.size n
  res : Bb wr (w.heap.size + 1) fun _ => 0
  own : Wd.Own wr w.heap.size (some ⟨w.heap.size + 2, 0, none⟩) 64 64 f
  num : ∀ k, k < 4 → wr.cell? ⟨w.heap.size + 3, k, none⟩ = some (.int .i64 (nmI n k))
  rg : Rg wr (w.heap.size + 4) (w.heap.size + 5) seen
section
variable {w wr w' : World} {n : Nd} {f f' : Nat → Int} {seen seen' : Array Nat}
theorem Ls.below (h : Ls w n f seen wr) (hb : Below wr.heap.size wr w') : Ls w n f seen w' := by
  have hs := h.sz
  exact ⟨h.bel.trans (hb.mono (by omega)), by have := hb.size; omega, h.nd.keep (hb.block _ (by omega)), h.res.keep (hb.block _ (by omega)), h.own.below hb,
    fun k hk => (World.cell?_of_block (hb.block _ (show w.heap.size + 3 < _ by omega))).trans (h.num k hk), h.rg.keep (hb.block _ (by omega)) (hb.block _ (by omega))⟩
theorem Ls.only (h : Ls w n f seen wr) (hg : Wd.Only wr w' (some ⟨w.heap.size + 2, 0, none⟩)) (ho : Wd.Own w' w.heap.size (some ⟨w.heap.size + 2, 0, none⟩) 64 64 f') : Ls w n f' seen w' := by
  have hs := h.sz
  have hg' : wr.grownBy w' (some (w.heap.size + 2)) := hg
  have hk : ∀ b, b < w.heap.size + 6 → b ≠ w.heap.size + 2 → w'.heap[b]? = wr.heap[b]? := fun b hb hne => hg'.block b (by omega) (by simpa using hne)
  exact ⟨h.bel.grown hg' (by have := h.bel.size; omega) (fun j hj => by cases hj; omega), by have := hg'.size; omega, h.nd.keep (hk _ (by omega) (by omega)), h.res.keep (hk _ (by omega) (by omega)), ho,
    fun k hk' => (World.cell?_of_block (hk _ (show w.heap.size + 3 < _ by omega) (show w.heap.size + 3 ≠ _ by omega))).trans (h.num k hk'), h.rg.keep (hk _ (by omega) (by omega)) (hk _ (by omega) (by omega))⟩
theorem Ls.next (h : Ls w n f seen wr) (hg : wr.grownBy w' (some (w.heap.size + 5))) (hr : Rg w' (w.heap.size + 4) (w.heap.size + 5) seen') : Ls w n f seen' w' := by
  have hs := h.sz
  have hk : ∀ b, b < w.heap.size + 6 → b ≠ w.heap.size + 5 → w'.heap[b]? = wr.heap[b]? := fun b hb hne => hg.block b (by omega) (by simpa using hne)
  refine ⟨h.bel.grown hg (by have := h.bel.size; omega) (fun j hj => by cases hj; omega), by have := hg.size; omega, h.nd.keep (hk _ (by omega) (by omega)), h.res.keep (hk _ (by omega) (by omega)), ?_,
    fun k hk' => (World.cell?_of_block (hk _ (show w.heap.size + 3 < _ by omega) (show w.heap.size + 3 ≠ _ by omega))).trans (h.num k hk'), hr⟩
  refine ⟨h.own.room, h.own.nil, .inr ⟨w.heap.size + 2, rfl, by omega, ?_⟩⟩
  obtain ⟨g, e, _, hrow⟩ := h.own.row.resolve_left (by rintro ⟨e, _⟩; cases e)
  cases e
  obtain ⟨cur, ⟨ty, hc⟩, hz⟩ := hrow.cur
  exact ⟨⟨cur, ⟨ty, (hk _ (by omega) (by omega)).trans hc⟩, hz⟩⟩
theorem Ls.congr (h : Ls w n f seen wr) (he : ∀ i, i < 64 → f i = f' i) : Ls w n f' seen wr := ⟨h.bel, h.sz, h.nd, h.res, h.own.congr he, h.num, h.rg⟩
theorem Ls.bytes (h : Ls w n f seen wr) : wr.rangeAt (w.heap.size + 2) 0 (b64 f).toList := by
  obtain ⟨g, e, _, hrow⟩ := h.own.row.resolve_left (by rintro ⟨e, _⟩; cases e)
  cases e
  intro j v hv
  have hj : j < 64 := by
    have := (List.getElem?_eq_some_iff.1 hv).1
    rw [Array.length_toList, b64_size] at this
    exact this
  have hv' : (b64 f)[j]? = some v := by simpa using hv
  rw [b64_get f hj] at hv'
  cases hv'
  exact hrow.cell hj
end

theorem Rg.seen {w : World} {bm r : Nat} {seen : Array Nat} (h : Rg w bm r seen) : w.iterSeen r = seen := by
  obtain ⟨_, c0, _, h2⟩ := h
  unfold World.iterSeen
  rw [h2]
theorem wpList_buildL {ops : Array Oper} {rest : List Oper} {o : Oper} {a : Act} {w : World} {Q : Exit → Act → World → Prop} (hg : o.guard = none) (t : TypeId) (ps : List (Nat × Operand)) (ho : o.op = .build t ps.toArray) (d : Option Tmp) (hd : o.dst = d) (vs : List (Nat × Value)) (hv : (ps.map fun (i, x) => (i, a.eval x)) = vs)
    (cells : Array Value) (hf : Try.prog.built t vs = some cells) (h : wpList Try.prog ops Q rest (a.put d (.agg cells)) w) : wpList Try.prog ops Q (o :: rest) a w :=
  wpList_buildTo hg t _ ho d hd cells (by
    have e : ((ps.toArray.map fun (i, x) => (i, a.eval x)) : Array (Nat × Value)).toList = vs := by rw [← hv]; simp
    rw [e]
    exact hf) h
theorem built4 (a b c d : Int) : Try.prog.built 58 [(0, .int .i64 a), (1, .int .i64 b), (2, .int .i64 c), (3, .int .i64 d)] = some #[.int .i64 a, .int .i64 b, .int .i64 c, .int .i64 d] := by kernel_rfl
theorem boxes3 (w : World) (n : Nd) : ∃ W, W = ((w.alloc (.cells (nV n).toArray 28)).alloc (.cells (b64 fun _ => 0) 30)).alloc (.cells (b64 fun _ => 0) 30) ∧ Below w.heap.size w W ∧ W.heap.size = w.heap.size + 3 ∧ Bn W w.heap.size n ∧ Bb W (w.heap.size + 1) (fun _ => 0) ∧ Bb W (w.heap.size + 2) fun _ => 0 := by
  obtain ⟨W1, h1, b1, x1, s1⟩ : ∃ W, W = w.alloc (.cells (nV n).toArray 28) ∧ Below w.heap.size w W ∧ Bn W w.heap.size n ∧ W.heap.size = w.heap.size + 1 := ⟨_, rfl, bn_new w n⟩
  obtain ⟨W2, h2, b2, x2, s2⟩ : ∃ W, W = W1.alloc (.cells (b64 fun _ => 0) 30) ∧ Below W1.heap.size W1 W ∧ Bb W W1.heap.size (fun _ => 0) ∧ W.heap.size = W1.heap.size + 1 := ⟨_, rfl, bb_new W1 _⟩
  obtain ⟨W3, h3, b3, x3, s3⟩ : ∃ W, W = W2.alloc (.cells (b64 fun _ => 0) 30) ∧ Below W2.heap.size W2 W ∧ Bb W W2.heap.size (fun _ => 0) ∧ W.heap.size = W2.heap.size + 1 := ⟨_, rfl, bb_new W2 _⟩
  refine ⟨W3, by rw [h3, h2, h1], (b1.trans (b2.mono (by omega))).trans (b3.mono (by omega)), by omega, (x1.keep (b2.block _ (by omega))).keep (b3.block _ (by omega)), ?_, ?_⟩
  · rw [← s1]
    exact x2.keep (b3.block _ (by omega))
  · rw [show w.heap.size + 2 = W2.heap.size by omega]
    exact x3
theorem results_b1 {tmps : Array Value} {w : World} {B : Nat} {cs : List Value} {g : Nat → Int} {fn : Func} {s : Nat} (hf : fn.results = #[.cell s 30]) (h2 : tmps.getD s undef = .pointer (some ⟨B, 0, none⟩))
    (kV : w.heap[B]? = some (.cells cs.toArray 30 (0, 0))) (hg : cs.toArray = b64 g) (hs : (Try.prog.info? 30).map (·.size) = some cs.toArray.size) : (results fn tmps).run Try.prog w = .ok (.agg (b64 g)) w := by
  have h2' : tmps[s]?.getD undef = .pointer (some ⟨B, 0, none⟩) := by simpa using h2
  have hv := run_loadVar_row (P := Try.prog) w B 30 30 cs.toArray (0, 0) _ kV und64 rfl hs
  rw [hg] at hv
  simp [results, hf, h2', asAddr, hv]
/-- a region's moments: one call that lays a part -/
structure Lr (w : World) (n : Nd) (f f' : Nat → Int) (seen : Array Nat) (pb : Nat) (a k : Int) (b : Bool) (w' : World) : Prop where
  st : Ls w n (if b = true then f' else f) seen w'
  c0 : w'.cell? ⟨pb, 0, none⟩ = some (.int .i64 a)
  c1 : w'.cell? ⟨pb, 1, none⟩ = some (.int .i64 k)
theorem cell_lt {w : World} {b o : Nat} {v : Value} (h : w.cell? ⟨b, o, none⟩ = some v) : b < w.heap.size := by
  rcases Nat.lt_or_ge b w.heap.size with h1 | h1
  · exact h1
  · simp [World.cell?, Array.getElem?_eq_none h1] at h
theorem grown_row {w : World} {B : Nat} (c : Array Value) : w.grownBy (w.setRow B c) (some B) := ⟨rfl, rfl, rfl, by simp, fun i _ hr => setRow_other _ _ _ _ (by simpa using hr)⟩
theorem drawn_below (W : World) : Below W.heap.size W { W with drawn := W.drawn + 1 } := ⟨rfl, rfl, rfl, Nat.le_refl _, fun _ _ => rfl⟩
section
variable {w w1 w' w'' : World} {n : Nd} {f f' : Nat → Int} {seen : Array Nat} {pb : Nat} {a k : Int}
theorem lr_new (h : Ls w n f seen w1) : ∃ w8, w8 = w1.alloc (.cells #[.int .i64 a, .int .i64 k] 62) ∧ Ls w n f seen w8 ∧ w8.cell? ⟨w1.heap.size, 0, none⟩ = some (.int .i64 a) ∧ w8.cell? ⟨w1.heap.size, 1, none⟩ = some (.int .i64 k) := by
  refine ⟨_, rfl, h.below ((Below.refl _ _).alloc (Nat.le_refl _) _), ?_, ?_⟩
  · rw [cell_of_row _ _ 0 _ _ _ (heap_alloc_new w1 _)]; rfl
  · rw [cell_of_row _ _ 1 _ _ _ (heap_alloc_new w1 _)]; rfl
theorem Lr.start (h : Ls w n f seen w') (h0 : w'.cell? ⟨pb, 0, none⟩ = some (.int .i64 a)) (h1 : w'.cell? ⟨pb, 1, none⟩ = some (.int .i64 k)) : Lr w n f f' seen pb a k false { w' with drawn := w'.drawn + 1 } :=
  ⟨h.below (drawn_below w'), h0, h1⟩
theorem Lr.call (h : Lr w n f f' seen pb a k false w') (hp : w.heap.size + 2 < pb) (hg : Wd.Only w' w'' (some ⟨w.heap.size + 2, 0, none⟩)) (ho : Wd.Own w'' w.heap.size (some ⟨w.heap.size + 2, 0, none⟩) 64 64 f') : Lr w n f f' seen pb a k true w'' := by
  have hk : pb < w'.heap.size := cell_lt h.c0
  have hb : w''.heap[pb]? = w'.heap[pb]? := hg.block pb hk (by simp; omega)
  exact ⟨h.st.only hg ho, (World.cell?_of_block hb).trans h.c0, (World.cell?_of_block hb).trans h.c1⟩
end
/-- La: what holds at each moment -/
def LaInv (x0 x2 x4 x5 x7 x8 x9 x10 x11 x12 x13 x14 x15 x16 x17 x18 x19 x20 x21 x22 x23 x24 x25 x26 x34 x35 x36 x37 x38 x39 x40 x41 x42 x43 : Value) (w : World) (n : Nd) (f f2 : Nat → Int) (seen : Array Nat) (pb : Nat) (a k : Int)  (L : Nat → Bool) (a' : Act) (w' : World) : Prop :=
  ∃ u0 u1 u2 u3 u4 u5 u6, a' = { tmps := #[x0, .pointer (some ⟨w.heap.size, 0, none⟩), x2, .pointer (some ⟨w.heap.size + 2, 0, none⟩), x4, x5, .pointer (some ⟨pb, 0, none⟩), x7, x8, x9, x10, x11, x12, x13, x14, x15, x16, x17, x18, x19, x20, x21, x22, x23, x24, x25, x26, u0, u1, u2, u3, u4, u5, u6, x34, x35, x36, x37, x38, x39, x40, x41, x42, x43], defers := [] } ∧ Fa L [(0, u0, .slice (some ⟨w.heap.size + 2, 0, none⟩) 64 64), (1, u1, .pointer (some ⟨pb, 0, none⟩)), (2, u2, .int .i64 a), (3, u3, .pointer (some ⟨w.heap.size, 3, none⟩)), (4, u4, .pointer (some ⟨w.heap.size, 3, none⟩)), (5, u5, .agg (pV n.p).toArray)] ∧ Od L [] ∧ Lr w n f f2 seen pb a k (L 6) w'
/-- Lb: what holds at each moment -/
def LbInv (x0 x2 x7 x8 x9 x10 x11 x12 x13 x14 x15 x16 x17 x18 x19 x20 x21 x22 x23 x24 x25 x26 x27 x28 x29 x30 x31 x32 x33 x43 : Value) (w : World) (n : Nd) (f f2 : Nat → Int) (seen : Array Nat) (pb : Nat) (a k : Int) (i : Nat)  (L : Nat → Bool) (a' : Act) (w' : World) : Prop :=
  ∃ u0 u1 u2 u3 u4 u5 u6 u7 u8, a' = { tmps := #[x0, .pointer (some ⟨w.heap.size, 0, none⟩), x2, .pointer (some ⟨w.heap.size + 2, 0, none⟩), .pointer (some ⟨w.heap.size + 3, 0, none⟩), .int .i64 (i : Int), .pointer (some ⟨pb, 0, none⟩), x7, x8, x9, x10, x11, x12, x13, x14, x15, x16, x17, x18, x19, x20, x21, x22, x23, x24, x25, x26, x27, x28, x29, x30, x31, x32, x33, u0, u1, u2, u3, u4, u5, u6, u7, u8, x43], defers := [] } ∧ Fa L [(0, u0, .slice (some ⟨w.heap.size + 2, 0, none⟩) 64 64), (1, u1, .pointer (some ⟨pb, 0, none⟩)), (2, u2, .int .i64 a), (3, u3, .pointer (some ⟨pb, 1, none⟩)), (4, u4, .int .i64 k), (5, u5, .int .i64 (i : Int)), (6, u6, .pointer (some ⟨w.heap.size + 3, i, none⟩)), (7, u7, .int .i64 (nmI n i))] ∧ Od L [] ∧ Lr w n f f2 seen pb a k (L 8) w'
set_option maxRecDepth 100000 in
set_option maxHeartbeats 4000000 in
theorem lay_any (n : Nd) (hn : rtB n = true) (w : World) : Calls Try.prog 18 #[.agg (nV n).toArray] w fun e w' => e = .returned (.agg (b64 (lyF n))) ∧ Below w.heap.size w w' := by
  obtain ⟨hgd, hpp⟩ := right_lay hn
  have HGD := Lib.hid hgd
  have HPP := Lib.hid hpp
  have HPL := Lib.hid (fun W => places_any W)
  obtain ⟨W, hW, hb0, hs0, hx0, hx1, hx2⟩ := boxes3 w n
  clear hgd hpp hn
  go_enter Try.func18, Try.ntmps18
  go_upto_region 2 with fail
  rw [z64, ← hW, show w.heap.size + 1 + 1 = w.heap.size + 2 from rfl]
  have cK := hx0.K
  have cL := hx0.L
  have cz := hx0.z
  have cc := hx0.c
  clear hW
  go_wp2_with (refine wpList_buildL rfl 58 [(0, .tmp 8), (1, .tmp 10), (2, .tmp 13), (3, .tmp 16)] rfl _ rfl [(0, .int .i64 n.K), (1, .int .i64 n.L), (2, .int .i64 n.c), (3, .int .i64 n.z)] (by rfl) _ (built4 _ _ _ _) ?_; simp only [Act.put, List.setIfInBounds_toArray, List.set_cons_succ, List.set_cons_zero])
  obtain ⟨W4, hW4, hb4, hs4, hc4⟩ : ∃ W4, W4 = W.alloc (.cells #[.int .i64 n.K, .int .i64 n.L, .int .i64 n.c, .int .i64 n.z] 58) ∧ Below W.heap.size W W4 ∧ W4.heap.size = w.heap.size + 4 ∧ (∀ k, k < 4 → W4.cell? ⟨w.heap.size + 3, k, none⟩ = some (.int .i64 (nmI n k))) := by
    refine ⟨_, rfl, (Below.refl _ _).alloc (Nat.le_refl _) _, by simp [hs0], fun k hk => ?_⟩
    rw [cell_of_row _ _ k _ _ _ (by rw [← hs0]; exact heap_alloc_new W _)]
    match k, hk with
    | 0, _ => rfl
    | 1, _ => rfl
    | 2, _ => rfl
    | 3, _ => rfl
    | j + 4, h => omega
  rw [← hW4]
  have hB4 := hb0.trans (hb4.mono hb0.size)
  have hn4 := hx0.keep (hb4.block _ (by omega))
  have h14 := hx1.keep (hb4.block _ (by omega))
  have h24 := hx2.keep (hb4.block _ (by omega))
  clear hW4 hb4 hx0 hx1 hx2 cK cL cz cc hb0
  refine (HPL.out W4).mono ?_
  rintro _ w5 ⟨rfl, hw5⟩
  rw [hs4]
  dsimp only
  obtain ⟨hm5, hb5, hs5⟩ : w5.heap[w.heap.size + 4]? = some (.map (ES 5) 5) ∧ Below W4.heap.size W4 w5 ∧ w5.heap.size = w.heap.size + 5 := by
    subst hw5
    refine ⟨by rw [← hs4]; exact heap_alloc_new _ _, (Below.refl _ _).alloc (Nat.le_refl _) _, by simp [hs4]⟩
  have hS : Ls w n (fun _ => 0) #[] (w5.alloc (.mapIter (some (w.heap.size + 4)) 5 #[] 5)) := by
    have hb6 : Below w5.heap.size w5 (w5.alloc (.mapIter (some (w.heap.size + 4)) 5 #[] 5)) := (Below.refl _ _).alloc (Nat.le_refl _) _
    have hB : Below W4.heap.size W4 (w5.alloc (.mapIter (some (w.heap.size + 4)) 5 #[] 5)) := hb5.trans (hb6.mono hb5.size)
    refine ⟨hB4.trans (hB.mono (by omega)), by simp [hs5], hn4.keep (hB.block _ (by omega)), h14.keep (hB.block _ (by omega)), ?_, fun k hk => (World.cell?_of_block (hB.block _ (show w.heap.size + 3 < _ by omega))).trans (hc4 k hk), ?_⟩
    · have h2 := h24.keep (hB.block _ (by omega))
      exact h2.own.mono (by omega)
    · have := rg_start hm5
      rwa [hs5] at this
  clear hw5 hb5 hB4 hn4 h14 h24 hc4 HPL hs0
  go_wp2_with (at_range; refine wpList_range5 rfl _ rfl (w.heap.size + 4) rfl hm5 ?_)
  go_frame
  rw [hs5]
  have HS := Lib.hid (hS.congr fun i _ => (gS_nil n i).symm)
  clear hS
  generalize w5.alloc (.mapIter (some (w.heap.size + 4)) 5 #[] 5) = w6 at *
  go_loopw [5, 6] (fun _ _ wr => ∃ seen, Hid (Ls w n (gS n seen) seen wr)) (fun _ _ wr => leftI (wr.iterSeen (w.heap.size + 5)))
  case atStart => exact ⟨#[], HS⟩
  case round =>
    clear HS hm5 hs5
    obtain ⟨seen, hR⟩ := hrel
    have hrg := hR.out.rg
    have hsn := hrg.seen
    go_wp2_with (at_next; refine wpList_next5 rfl _ rfl (w.heap.size + 4) (w.heap.size + 5) seen rfl hrg (by omega) ?_ ?_)
    · intro hall
      have hE := hR.out.congr (f' := lyF n) fun i _ => gS_all (fun k hk => by simpa using hall k hk) i
      obtain ⟨L, hL, hLs, hLa⟩ : ∃ L : List Value, L.toArray = b64 (lyF n) ∧ L.length = 64 ∧ L.toArray.all (·.oneCell') = true := ⟨(b64 (lyF n)).toList, by simp, by rw [Array.length_toList, b64_size], by simpa using b64_all (lyF n)⟩
      have hby : wr.rangeAt (w.heap.size + 2) 0 L := by
        have := hE.bytes
        rwa [← hL] at this
      have hrs := hE.res.row
      have hsl : (Try.prog.info? 30).map (·.size) = some L.length := by rw [hLs]; kernel_rfl
      have hsl' : (Try.prog.info? 30).map (·.size) = some L.toArray.size := by rw [List.size_toArray]; exact hsl
      have HE := Lib.hid hE
      have HL := Lib.hid hL
      have HRS := Lib.hid hrs
      have HLA := Lib.hid hLa
      have HSL := Lib.hid hsl
      have HSL' := Lib.hid hsl'
      have HCS : Hid ((b64 fun _ => 0).size = L.toArray.size) := Lib.hid (by rw [b64_size, List.size_toArray, hLs])
      clear hall hE hrg hsn hR hL hLs hLa hrs hsl hsl'
      go_wp2_with (first
        | (refine wpList_load_mid rfl 30 (.tmp 3) rfl (w.heap.size + 2) 0 rfl L _ (by exact hby) und64 rfl HSL.out ?_; simp only [Act.put, List.setIfInBounds_toArray, List.set_cons_succ, List.set_cons_zero])
        | (refine @wpList_store_row _ _ _ _ _ _ _ rfl 30 (.tmp 2) (.tmp 43) rfl (w.heap.size + 1) L.toArray rfl rfl 30 _ HRS.out HSL'.out HCS.out HLA.out ?_; simp only [Act.put]))
      refine bodyPost_ret (results_b1 rfl rfl (setRow_heap _ _ _ _ _ _ HRS.out) HL.out HSL'.out) rfl ?_
      exact ⟨rfl, HE.out.bel.grown (grown_row _) (by have := HE.out.bel.size; have := HE.out.sz; omega) (fun j hj => by cases hj; omega)⟩
    · intro i w7 hi hns hrg7 hlt hg7 hs7 hen
      have h7 := hR.out.next hg7 hrg7
      have hsz7 := h7.sz
      have hns' : seen.contains i = false := by simpa using hns
      clear hns
      by_cases h4 : i = 4
      · subst h4
        simp only [plV, show aI 4 = 8 from rfl, show kI 4 = 40 from rfl] at hen ⊢
        go_upto_region 6 with fail
        obtain ⟨pb, hpb⟩ : ∃ pb, pb = wr.heap.size := ⟨_, rfl⟩
        rw [← hpb] at hs7 ⊢
        obtain ⟨w8, hw8, h8, c80, c81⟩ := lr_new (a := 8) (k := 40) h7
        rw [hs7] at c80 c81
        rw [← hw8]
        clear hw8 hen hrg7 hg7 hpb
        have HR8 := Lib.hid (Lr.start (f' := ppF 64 8 n.p (gS n seen)) h8 c80 c81)
        have HPT := Lib.hid (fun W (h : Wd.Own W w.heap.size (some ⟨w.heap.size + 2, 0, none⟩) 64 64 (gS n seen)) => Pt.put_any W w.heap.size (some ⟨w.heap.size + 2, 0, none⟩) 64 64 (gS n seen) 8 n.p h (by omega))
        have HSN := Lib.hid hsn
        clear h8 c80 c81 h7 hsn
        go_wp2_with fail
        refine QuietTail2.regionInv (n := 7) (Inv := LaInv _ _ _ _ _ _ _ _ _ _ _ _ _ _ _ _ _ _ _ _ _ _ _ _ _ _ _ _ _ _ _ _ _ _ w n (gS n seen) (ppF 64 8 n.p (gS n seen)) (seen.push 4) pb 8 40) (by kernel_rfl) (by decide) (by kernel_rfl) ⟨_, _, _, _, _, _, _, rfl, Fa.none _, Od.none _, ?_⟩ ?step ?fin
        exact HR8.out
        case step =>
          rintro i o hi ho L a' w' ⟨u0, u1, u2, u3, u4, u5, u6, rfl, TF, TO, TW⟩ hL hpre
          match i, hi with
          | 0, _ =>
            simp at ho
            subst ho
            go_simp
            exact ⟨_, u1, u2, u3, u4, u5, u6, rfl, TF.set 0, TO.set 0 trivial, TW⟩
          | 1, _ =>
            simp at ho
            subst ho
            go_simp
            exact ⟨u0, _, u2, u3, u4, u5, u6, rfl, TF.set 1, TO.set 1 trivial, TW⟩
          | 2, _ =>
            simp at ho
            subst ho
            obtain rfl := TF.2.1 (hpre 1 (by kernel_rfl))
            have hc := TW.c0
            go_simp
            exact ⟨u0, _, _, u3, u4, u5, u6, rfl, TF.set 2, TO.set 2 trivial, TW⟩
          | 3, _ =>
            simp at ho
            subst ho
            go_simp
            exact ⟨u0, u1, u2, _, u4, u5, u6, rfl, TF.set 3, TO.set 3 trivial, TW⟩
          | 4, _ =>
            simp at ho
            subst ho
            obtain rfl := TF.2.2.2.1 (hpre 3 (by kernel_rfl))
            go_simp
            exact ⟨u0, u1, u2, _, _, u5, u6, rfl, TF.set 4, TO.set 4 trivial, TW⟩
          | 5, _ =>
            simp at ho
            subst ho
            obtain rfl := TF.2.2.2.2.1 (hpre 4 (by kernel_rfl))
            refine wp_load_mid 24 (.tmp 31) rfl w.heap.size 3 rfl (pV n.p) _ TW.st.nd.pt undP rfl (sizeP _) ?_
            simp only [Act.put, List.setIfInBounds_toArray, List.set_cons_succ, List.set_cons_zero]
            exact ⟨u0, u1, u2, u3, _, _, u6, rfl, TF.set 5, TO.set 5 trivial, TW⟩
          | 6, _ =>
            simp at ho
            subst ho
            obtain rfl := TF.1 (hpre 0 (by kernel_rfl))
            obtain rfl := TF.2.2.1 (hpre 2 (by kernel_rfl))
            obtain rfl := TF.2.2.2.2.2.1 (hpre 5 (by kernel_rfl))
            have hw := TW
            rw [hL] at hw
            go_simp
            refine (HPT.out w' hw.st.own).mono ?_
            rintro _ w'' ⟨rfl, hO, hW⟩
            exact ⟨_, u1, _, u3, u4, _, _, rfl, TF.set 6, TO.set 6 trivial, (hw.call (by omega) hO hW)⟩
          | i + 7, h => omega
        case fin =>
          rintro L a' w' hall ⟨u0, u1, u2, u3, u4, u5, u6, rfl, TF, TO, hWD⟩
          rw [hall 6 (by omega)] at hWD
          clear TF TO
          refine wpList_nil ?_
          obtain ⟨hS8, _, _⟩ := hWD
          have HS8 := Lib.hid ((hS8.congr (f' := gS n (seen.push 4)) fun i _ => put_root HPP.out i))
          clear hS8 HR8 HPT
          go_roundw
          case rel =>
            first | exact ⟨_, _, _, _, _, _, _, _, _, _, _, _, _, _, _, _, _, _, _, _, _, _, _, _, ⟨_, HS8⟩, rfl⟩ | exact ⟨_, _, _, _, _, _, _, _, _, _, _, _, _, _, _, _, _, _, _, _, _, _, _, _, _, ⟨_, HS8⟩, rfl⟩ | exact ⟨_, _, _, _, _, _, _, _, _, _, _, _, _, _, _, _, _, _, _, _, _, _, _, ⟨_, HS8⟩, rfl⟩
          case measure =>
            rw [HS8.out.rg.seen, HSN.out]
            exact hlt
      · have hi4 : i < 4 := by omega
        have e4 : ((i : Int) == 4) = false := beq_eq_false_iff_ne.2 (by omega)
        simp only [plV] at hen ⊢
        go_upto_region 6 with fail
        obtain ⟨pb, hpb⟩ : ∃ pb, pb = wr.heap.size := ⟨_, rfl⟩
        rw [← hpb] at hs7 ⊢
        obtain ⟨w8, hw8, h8, c80, c81⟩ := lr_new (a := aI i) (k := kI i) h7
        rw [hs7] at c80 c81
        rw [← hw8]
        clear hw8 hen hrg7 hg7 hpb h4
        have HR8 := Lib.hid (Lr.start (f' := Wd.putF 64 (aI i) (kI i) (nmI n i) (gS n seen)) h8 c80 c81)
        have HPT := Lib.hid (fun W (h : Wd.Own W w.heap.size (some ⟨w.heap.size + 2, 0, none⟩) 64 64 (gS n seen)) => Wd.put_any W w.heap.size (some ⟨w.heap.size + 2, 0, none⟩) 64 64 (gS n seen) (aI i) (kI i) (nmI n i) h (by omega))
        have HSN := Lib.hid hsn
        clear h8 c80 c81 h7 hsn
        go_wp2_with fail
        refine QuietTail2.regionInv (n := 9) (Inv := LbInv _ _ _ _ _ _ _ _ _ _ _ _ _ _ _ _ _ _ _ _ _ _ _ _ _ _ _ _ _ _ w n (gS n seen) (Wd.putF 64 (aI i) (kI i) (nmI n i) (gS n seen)) (seen.push i) pb (aI i) (kI i) i) (by kernel_rfl) (by decide) (by kernel_rfl) ⟨_, _, _, _, _, _, _, _, _, rfl, Fa.none _, Od.none _, ?_⟩ ?step ?fin
        exact HR8.out
        case step =>
          rintro j o hi ho L a' w' ⟨u0, u1, u2, u3, u4, u5, u6, u7, u8, rfl, TF, TO, TW⟩ hL hpre
          match j, hi with
          | 0, _ =>
            simp at ho
            subst ho
            go_simp
            exact ⟨_, u1, u2, u3, u4, u5, u6, u7, u8, rfl, TF.set 0, TO.set 0 trivial, TW⟩
          | 1, _ =>
            simp at ho
            subst ho
            go_simp
            exact ⟨u0, _, u2, u3, u4, u5, u6, u7, u8, rfl, TF.set 1, TO.set 1 trivial, TW⟩
          | 2, _ =>
            simp at ho
            subst ho
            obtain rfl := TF.2.1 (hpre 1 (by kernel_rfl))
            have hc := TW.c0
            go_simp
            exact ⟨u0, _, _, u3, u4, u5, u6, u7, u8, rfl, TF.set 2, TO.set 2 trivial, TW⟩
          | 3, _ =>
            simp at ho
            subst ho
            go_simp
            exact ⟨u0, u1, u2, _, u4, u5, u6, u7, u8, rfl, TF.set 3, TO.set 3 trivial, TW⟩
          | 4, _ =>
            simp at ho
            subst ho
            obtain rfl := TF.2.2.2.1 (hpre 3 (by kernel_rfl))
            have hc := TW.c1
            go_simp
            exact ⟨u0, u1, u2, _, _, u5, u6, u7, u8, rfl, TF.set 4, TO.set 4 trivial, TW⟩
          | 5, _ =>
            simp at ho
            subst ho
            go_simp
            exact ⟨u0, u1, u2, u3, u4, _, u6, u7, u8, rfl, TF.set 5, TO.set 5 trivial, TW⟩
          | 6, _ =>
            simp at ho
            subst ho
            obtain rfl := TF.2.2.2.2.2.1 (hpre 5 (by kernel_rfl))
            have hi5 : (i : Int) < 4 := by omega
            go_simp
            exact ⟨u0, u1, u2, u3, u4, _, _, u7, u8, rfl, TF.set 6, TO.set 6 trivial, TW⟩
          | 7, _ =>
            simp at ho
            subst ho
            obtain rfl := TF.2.2.2.2.2.2.1 (hpre 6 (by kernel_rfl))
            have hc := TW.st.num i hi4
            go_simp
            exact ⟨u0, u1, u2, u3, u4, u5, _, _, u8, rfl, TF.set 7, TO.set 7 trivial, TW⟩
          | 8, _ =>
            simp at ho
            subst ho
            obtain rfl := TF.1 (hpre 0 (by kernel_rfl))
            obtain rfl := TF.2.2.1 (hpre 2 (by kernel_rfl))
            obtain rfl := TF.2.2.2.2.1 (hpre 4 (by kernel_rfl))
            obtain rfl := TF.2.2.2.2.2.2.2.1 (hpre 7 (by kernel_rfl))
            have hw := TW
            rw [hL] at hw
            go_simp
            refine (HPT.out w' hw.st.own).mono ?_
            rintro _ w'' ⟨rfl, hO, hW⟩
            exact ⟨_, u1, _, u3, _, u5, u6, _, _, rfl, TF.set 8, TO.set 8 trivial, (hw.call (by omega) hO hW)⟩
          | i + 9, h => omega
        case fin =>
          rintro L a' w' hall ⟨u0, u1, u2, u3, u4, u5, u6, u7, u8, rfl, TF, TO, hWD⟩
          rw [hall 8 (by omega)] at hWD
          clear TF TO
          refine wpList_nil ?_
          obtain ⟨hS8, _, _⟩ := hWD
          have HS8 := Lib.hid ((hS8.congr (f' := gS n (seen.push i)) fun j _ => put_num hi4 (HGD.out i hi4) j))
          clear hS8 HR8 HPT
          go_roundw
          case rel =>
            first | exact ⟨_, _, _, _, _, _, _, _, _, _, _, _, _, _, _, _, _, _, _, _, _, _, _, _, ⟨_, HS8⟩, rfl⟩ | exact ⟨_, _, _, _, _, _, _, _, _, _, _, _, _, _, _, _, _, _, _, _, _, _, _, _, _, ⟨_, HS8⟩, rfl⟩ | exact ⟨_, _, _, _, _, _, _, _, _, _, _, _, _, _, _, _, _, _, _, _, _, _, _, ⟨_, HS8⟩, rfl⟩
          case measure =>
            rw [HS8.out.rg.seen, HSN.out]
            exact hlt
end In
end Go.Proofs.Ytnmljjehkdbbjaa
