/- space: SpaceNever's memory: the space, the slices of who holds what. -/
import Derived.Test.YtdbmdocmnhgbpaaSpNvM
import Derived.Test.YtdbmdocmnhgbpaaSpPlc
import Derived.Maps.AppendAt
import Derived.Great.BuildSlice
namespace Go.Proofs.Ytdbmdocmnhgbpaa
set_option maxRecDepth 20000
namespace Sp
open Go.RowKit Dk Eqb Byt

theorem inf_ptr : (Try.prog.info? 44).map (fun i => (i.zero, i.size, i.bytes)) = some (some (.agg (Pt.pV Pt.pz).toArray), 34, 48) := by kernel_rfl
theorem und_ptrs : Try.prog.underlying 48 = some (.slice 44) := by kernel_rfl
def pcs (H : List Pt.Pn) : List Value := H.flatMap Pt.pV
theorem pcs_len : ∀ H : List Pt.Pn, (pcs H).length = H.length * 34
  | [] => rfl
  | p :: H => by
    show (Pt.pV p ++ pcs H).length = _
    rw [List.length_append, Pt.pV_length, pcs_len H, List.length_cons]
    omega
theorem pcs_append (H H' : List Pt.Pn) : pcs (H ++ H') = pcs H ++ pcs H' := by simp [pcs]
theorem pcs_single (p : Pt.Pn) : pcs [p] = Pt.pV p := by simp [pcs]
theorem pcs_one (H : List Pt.Pn) : ∀ u ∈ pcs H, u.oneCell' = true := by
  intro u hu
  obtain ⟨p, _, hp⟩ := List.mem_flatMap.1 hu
  exact Pt.pV_one p u hp
theorem pcs_get : ∀ {H : List Pt.Pn} {j r : Nat} {p : Pt.Pn} {v : Value}, H[j]? = some p → (Pt.pV p)[r]? = some v → (pcs H)[j * 34 + r]? = some v
  | [], j, r, p, v, h, _ => by simp at h
  | q :: H, 0, r, p, v, h, hv => by
    simp at h
    subst h
    have hr : r < 34 := by have := (List.getElem?_eq_some_iff.1 hv).1; rwa [Pt.pV_length] at this
    show (Pt.pV q ++ pcs H)[0 * 34 + r]? = some v
    rw [Nat.zero_mul, Nat.zero_add, List.getElem?_append_left (by rw [Pt.pV_length]; exact hr)]
    exact hv
  | q :: H, j + 1, r, p, v, h, hv => by
    simp at h
    show (Pt.pV q ++ pcs H)[(j + 1) * 34 + r]? = some v
    rw [List.getElem?_append_right (by rw [Pt.pV_length]; omega), Pt.pV_length, show (j + 1) * 34 + r - 34 = j * 34 + r by omega]
    exact pcs_get h hv
theorem pcs_drop {H : List Pt.Pn} {k : Nat} (hk : k ≤ H.length) (j : Nat) : (pcs (H.drop k))[j]? = (pcs H)[k * 34 + j]? := by
  have e : pcs H = pcs (H.take k) ++ pcs (H.drop k) := by rw [← pcs_append, List.take_append_drop]
  have l : (pcs (H.take k)).length = k * 34 := by rw [pcs_len, List.length_take, Nat.min_eq_left hk]
  rw [e, List.getElem?_append_right (by omega), l, show k * 34 + j - k * 34 = j by omega]
theorem pcs_take {H : List Pt.Pn} {k : Nat} {j : Nat} {u : Value} (h : (pcs (H.take k))[j]? = some u) : (pcs H)[j]? = some u := by
  have e : pcs H = pcs (H.take k) ++ pcs (H.drop k) := by rw [← pcs_append, List.take_append_drop]
  rw [e, List.getElem?_append_left (List.getElem?_eq_some_iff.1 h).1]
  exact h
/-- v is a slice of these pointers, the call's own -/
def OwnP (w : World) (base : Nat) (v : Value) (H : List Pt.Pn) : Prop := w.ownsRow base 44 34 v H.length (pcs H)
section
variable {w w' : World} {base : Nat} {v : Value} {H : List Pt.Pn}
theorem OwnP.nil (w : World) (base : Nat) : OwnP w base (.slice none 0 0) [] := World.ownsRow_nil _ _ _ _
theorem OwnP.slice (h : OwnP w base v H) : (v = .slice none 0 0 ∧ H = []) ∨ ∃ b cap, v = .slice (some ⟨b, 0, none⟩) H.length cap ∧ base ≤ b ∧ b < w.heap.size ∧ H.length ≤ cap ∧ ∀ j u, (pcs H)[j]? = some u → w.cell? ⟨b, j, none⟩ = some u := by
  have hc := fun (g : Nat) (hg : v.ownBlock = some g) => World.ownsRow.cells h hg
  rcases h.2 with ⟨h1, h2⟩ | ⟨g, cap, cur, h1, hb, hg, hn, _⟩
  · exact .inl ⟨h1, List.eq_nil_of_length_eq_zero h2⟩
  · refine .inr ⟨g, cap, h1, hb, (Array.getElem?_eq_some_iff.1 hg).1, hn, fun j u hu => ?_⟩
    have := hc g (by rw [h1]; rfl) j u hu
    rwa [show (⟨g, 0, none⟩ : Addr).add j = ⟨g, j, none⟩ by unfold Addr.add; split <;> simp_all] at this
theorem OwnP.shape (h : OwnP w base v H) : ∃ ao cap, v = .slice ao H.length cap := by
  rcases h.slice with ⟨h1, h2⟩ | ⟨b, cap, h1, _⟩
  · subst h2; exact ⟨_, _, h1⟩
  · exact ⟨_, _, h1⟩
end
theorem OwnI.shape {w : World} {base : Nat} {v : Value} {xs : List Int} (h : OwnI w base v xs) : ∃ ao cap, v = .slice ao xs.length cap := by
  rcases h.slice with ⟨h1, h2⟩ | ⟨b, cap, h1, _⟩
  · subst h2; exact ⟨_, _, h1⟩
  · exact ⟨_, _, h1⟩
section
variable {w : World} {base n c b : Nat} {a : Option Addr} {H : List Pt.Pn} {X : List Int}
theorem OwnP.at (h : OwnP w base (.slice a n c) H) (hn : 0 < H.length) : ∃ b, a = some ⟨b, 0, none⟩ ∧ b < w.heap.size := by
  rcases h.slice with ⟨_, h2⟩ | ⟨b, cap, h1, _, h3, _⟩
  · rw [h2] at hn; simp at hn
  · injection h1 with h1 _ _
    exact ⟨b, h1, h3⟩
theorem OwnP.ptr (h : OwnP w base (.slice (some ⟨b, 0, none⟩) n c) H) {m : Nat} {q : Pt.Pn} (hq : H[m]? = some q) : w.rangeAt b (m * 34) (Pt.pV q) ∧ w.cell? ⟨b, m * 34, none⟩ = some (.int .i64 q.A) ∧ w.cell? ⟨b, m * 34 + 1, none⟩ = some (.int .i64 q.B) := by
  rcases h.slice with ⟨h1, _⟩ | ⟨b', cap, h1, _, _, _, hc⟩
  · cases h1
  · injection h1 with h1 _ _
    injection h1 with h1
    injection h1 with h1 _ _
    subst h1
    exact ⟨fun j v hv => hc _ v (pcs_get hq hv), hc _ _ (by have := pcs_get (r := 0) hq rfl; exact this), hc _ _ (pcs_get (r := 1) hq rfl)⟩
theorem OwnP.room (h : OwnP w base (.slice a n c) H) : H.length ≤ c ∧ n = H.length ∧ c ≤ maxLen := by
  rcases h.2 with ⟨h1, h2⟩ | ⟨g, cap, cur, h1, _, _, hn, hm, _⟩
  · injection h1 with _ h3 h4
    subst h4
    exact ⟨by omega, by omega, by unfold maxLen; omega⟩
  · injection h1 with _ h3 h4
    subst h4
    exact ⟨hn, h3, hm⟩
theorem OwnI.at (h : OwnI w base (.slice a n c) X) (hn : 0 < X.length) : ∃ b, a = some ⟨b, 0, none⟩ ∧ b < w.heap.size := by
  rcases h.slice with ⟨_, h2⟩ | ⟨b, cap, h1, _, h3, _⟩
  · rw [h2] at hn; simp at hn
  · injection h1 with h1 _ _
    exact ⟨b, h1, h3⟩
theorem OwnI.cellAt (h : OwnI w base (.slice (some ⟨b, 0, none⟩) n c) X) {m : Nat} {x : Int} (hx : X[m]? = some x) : w.cell? ⟨b, m, none⟩ = some (.int .i64 x) := by
  rcases h.slice with ⟨h1, _⟩ | ⟨b', cap, h1, _, _, hc⟩
  · cases h1
  · injection h1 with h1 _ _
    injection h1 with h1
    injection h1 with h1 _ _
    subst h1
    obtain ⟨hl, hv⟩ := List.getElem?_eq_some_iff.1 hx
    rw [hc m hl, List.getD_eq_getElem?_getD, hx]
    rfl
end
theorem OwnI.keptR {w w' : World} {base : Nat} {v : Value} {xs : List Int} {row : Option Nat} (h : OwnI w base v xs) (hg : w.grownBy w' row) (hne : v.ownBlock = none ∨ v.ownBlock ≠ row) : OwnI w' base v xs := World.ownsRow.kept h hg hne
def Apart (v v' : Value) : Prop := v.ownBlock = none ∨ v.ownBlock ≠ v'.ownBlock
theorem Apart.symm {v v' : Value} (h : Apart v v') : Apart v' v := by
  unfold Apart at *
  cases e : v'.ownBlock with
  | none => exact .inl rfl
  | some b =>
    right
    rw [e] at h
    rcases h with h | h
    · rw [h]; exact fun h => by cases h
    · exact Ne.symm h
theorem own_ne_sp {w : World} {base k n g n' cap' : Nat} {e : TypeId} {v : Value} {xs : List Value} {A B Z : Int} {ao' : Option Addr} (h : w.ownsRow base e k v n xs) (hx : Bs w g A B Z ao' n' cap') (hne : e ≠ 26) : v.ownBlock ≠ some g := by
  intro he
  rcases h.2 with ⟨hv, _⟩ | ⟨b, cap, cur, hv, _, hc, _⟩
  · subst hv; cases he
  · subst hv
    injection he with he
    simp only at he
    subst he
    rw [hx] at hc
    injection hc with hc
    injection hc with _ hc _
    exact hne hc.symm
theorem own_ne_own {w : World} {B B' : Nat} {e e' : TypeId} {k k' n n' : Nat} {v v' : Value} {xs xs' : List Value} (h : w.ownsRow B e k v n xs) (h' : w.ownsRow B' e' k' v' n' xs') (hne : e ≠ e') : Apart v v' := by
  rcases h.2 with ⟨hv, _⟩ | ⟨b, cap, cur, hv, _, hc, _⟩
  · subst hv; exact .inl rfl
  · refine .inr fun he => ?_
    subst hv
    rcases h'.2 with ⟨hv', _⟩ | ⟨b', cap', cur', hv', _, hc', _⟩
    · subst hv'; cases he
    · subst hv'
      injection he with he
      simp only at he
      subst he
      rw [hc] at hc'
      injection hc' with hc'
      injection hc' with _ hc' _
      exact hne hc'
theorem St.keepR {w w' : World} {n cap : Nat} {ao : Option Addr} {f : Nat → Int} {row : Option Nat} (h : St w w.heap.size ao n cap f) (hg : w.grownBy w' row) (hr : ∀ b off, ao = some ⟨b, off, none⟩ → row ≠ some b) : St w' w'.heap.size ao n cap f := by
  refine ⟨⟨h.lies.room, h.lies.nil, fun hne => ?_⟩, h.byte, h.room⟩
  obtain ⟨b, off, e, hb, hc⟩ := h.lies.cells hne
  have hbl : w'.heap[b]? = w.heap[b]? := hg.block b (by omega) (Ne.symm (hr b off e))
  exact ⟨b, off, e, by have := hg.size; omega, fun i hi => (World.cell?_of_block (a := ⟨b, off + i, none⟩) hbl).trans (hc i hi)⟩
theorem St.at {w : World} {K n cap b off : Nat} {f : Nat → Int} (h : St w K (some ⟨b, off, none⟩) n cap f) (hn : 0 < n) : b < K := by
  obtain ⟨b', off', e, hb, _⟩ := bytes_tab h.lies hn
  injection e with e
  injection e with e1 e2
  subst e1
  exact hb

/-- where SpaceNever keeps what -/
structure NvW (w0 : World) (g : Nat) (f : Nat → Int) (H : List Pt.Pn) (K G D : List Int) (vH vK vG vD : Value) (w : World) : Prop where
  below : Below w0.heap.size w0 w
  far : w0.heap.size ≤ g
  sp : ∃ ao cap, Bs w g 3 20 6 ao 12 cap ∧ St w w.heap.size ao 12 cap f ∧ ∀ b off, ao = some ⟨b, off, none⟩ → vH.ownBlock ≠ some b ∧ vK.ownBlock ≠ some b ∧ vG.ownBlock ≠ some b ∧ vD.ownBlock ≠ some b
  rH : OwnP w w0.heap.size vH H
  rK : OwnI w w0.heap.size vK K
  rG : OwnI w w0.heap.size vG G
  rD : OwnI w w0.heap.size vD D
  kg : Apart vK vG
  kd : Apart vK vD
  gd : Apart vG vD
section
variable {w0 w w' : World} {g : Nat} {f f' : Nat → Int} {H H' : List Pt.Pn} {K G D X' : List Int} {vH vK vG vD v' : Value}
theorem below_grown {w w' : World} {B : Nat} {row : Option Nat} (hg : w.grownBy w' row) (hB : B ≤ w.heap.size) (hr : ∀ b, row = some b → B ≤ b) : Below B w w' :=
  (Below.refl B w).grown hg hB hr
/-- every world but for the space -/
theorem NvW.more (h : NvW w0 g f H K G D vH vK vG vD w) (hb : Below w.heap.size w w') : NvW w0 g f H K G D vH vK vG vD w' := by
  obtain ⟨ao, cap, hx, hs, hn⟩ := h.sp
  have hg : w.grownBy w' none := ⟨hb.os, hb.tape, hb.output, hb.size, fun k hk _ => hb.block k hk⟩
  have hr : ∀ v : Value, v.ownBlock = none ∨ v.ownBlock ≠ none := fun v => by cases v.ownBlock <;> simp
  exact ⟨h.below.trans (hb.mono h.below.size), h.far, ⟨ao, cap, hx.below hb hx.lt, hs.later hb, hn⟩, h.rH.kept hg (hr _), h.rK.below hb, h.rG.below hb, h.rD.below hb, h.kg, h.kd, h.gd⟩
theorem NvW.turn (h : NvW w0 g f H K G D vH vK vG vD w) (T : Turn w g 3 20 6 12 f' w') : NvW w0 g f' H K G D vH vK vG vD w' := by
  obtain ⟨ao, cap, hx, hs, hn⟩ := h.sp
  obtain ⟨⟨ao', cap', hx', hs'⟩, hg, hl⟩ := T
  have tH := own_ne_sp h.rH hx (by decide)
  have tK := own_ne_sp h.rK hx (by decide)
  have tG := own_ne_sp h.rG hx (by decide)
  have tD := own_ne_sp h.rD hx (by decide)
  refine ⟨h.below.grown hg h.below.size (fun k hk => by injection hk with hk; have := h.far; omega), h.far, ⟨ao', cap', hx', hs', ?_⟩, h.rH.kept hg (.inr tH), h.rK.keptR hg (.inr tK), h.rG.keptR hg (.inr tG), h.rD.keptR hg (.inr tD), h.kg, h.kd, h.gd⟩
  intro b off e
  subst e
  rcases hl b off cap' hx' hx.lt with h1 | ⟨cap2, h1⟩
  · have lt : ∀ {e k n xs} {v : Value}, w.ownsRow w0.heap.size e k v n xs → v.ownBlock ≠ some b := fun ho he => by
      have := (ho.lt b he).2
      omega
    exact ⟨lt h.rH, lt h.rK, lt h.rG, lt h.rD⟩
  · exact hn b off (hx.same h1)
/-- an old row grows: what that leaves -/
theorem NvW.grow (h : NvW w0 g f H K G D vH vK vG vD w) {v : Value} {e : TypeId} {k n : Nat} {xs : List Value} (hv : w.ownsRow w0.heap.size e k v n xs) (he : e ≠ 26) (hg : w.grownBy w' v.ownBlock) (hs : ∀ ao cap, Bs w g 3 20 6 ao 12 cap → ∀ b off, ao = some ⟨b, off, none⟩ → v.ownBlock ≠ some b) (hl : v'.ownBlock = v.ownBlock ∨ v'.ownBlock = some w.heap.size) :
    Below w0.heap.size w0 w' ∧ (∃ ao cap, Bs w' g 3 20 6 ao 12 cap ∧ St w' w'.heap.size ao 12 cap f ∧ ∀ b off, ao = some ⟨b, off, none⟩ → v'.ownBlock ≠ some b ∧ vH.ownBlock ≠ some b ∧ vK.ownBlock ≠ some b ∧ vG.ownBlock ≠ some b ∧ vD.ownBlock ≠ some b) ∧
    (Apart vH v → OwnP w' w0.heap.size vH H) ∧ (Apart vK v → OwnI w' w0.heap.size vK K ∧ Apart vK v') ∧ (Apart vG v → OwnI w' w0.heap.size vG G ∧ Apart vG v') ∧ (Apart vD v → OwnI w' w0.heap.size vD D ∧ Apart vD v') := by
  obtain ⟨ao, cap, hx, hst, hn⟩ := h.sp
  have tv := own_ne_sp hv hx he
  have ap : ∀ {u : Value} {e k n xs}, w.ownsRow w0.heap.size e k u n xs → Apart u v → Apart u v' := fun {u} {e k n xs} hu ha => by
    rcases hl with hl | hl
    · unfold Apart; rw [hl]; exact ha
    · unfold Apart
      rw [hl]
      cases eu : u.ownBlock with
      | none => exact .inl rfl
      | some b =>
        right
        intro e2
        injection e2 with e2
        have := (hu.lt b eu).2
        omega
  refine ⟨h.below.grown hg h.below.size (fun k hk => (hv.lt k hk).1), ⟨ao, cap, hx.block (hg.block g hx.lt (Ne.symm tv)), hst.keepR hg (hs ao cap hx), fun b off e => ⟨?_, hn b off e⟩⟩, fun ha => h.rH.kept hg ha, fun ha => ⟨h.rK.keptR hg ha, ap h.rK ha⟩, fun ha => ⟨h.rG.keptR hg ha, ap h.rG ha⟩, fun ha => ⟨h.rD.keptR hg ha, ap h.rD ha⟩⟩
  rcases hl with hl | hl
  · rw [hl]; exact hs ao cap hx b off e
  · rw [hl]
    intro e2
    injection e2 with e2
    subst e
    have := hst.at (by omega)
    omega
theorem NvW.sep (h : NvW w0 g f H K G D vH vK vG vD w) {ao : Option Addr} {cap : Nat} (hx' : Bs w g 3 20 6 ao 12 cap) {b off : Nat} (e : ao = some ⟨b, off, none⟩) : vH.ownBlock ≠ some b ∧ vK.ownBlock ≠ some b ∧ vG.ownBlock ≠ some b ∧ vD.ownBlock ≠ some b := by
  obtain ⟨ao2, cap2, hx, _, hn⟩ := h.sp
  have := hx.same hx'
  subst this
  exact hn b off e
theorem NvW.appK (h : NvW w0 g f H K G D vH vK vG vD w) (ho : OwnI w' w0.heap.size v' X') (hg : w.grownBy w' vK.ownBlock) (hl : v'.ownBlock = vK.ownBlock ∨ v'.ownBlock = some w.heap.size) : NvW w0 g f H X' G D vH v' vG vD w' := by
  obtain ⟨h1, ⟨ao, cap, hx, hs, hn⟩, hH, hK, hG, hD⟩ := h.grow h.rK (by decide) hg (fun ao cap hx b off e => (h.sep hx e).2.1) hl
  exact ⟨h1, h.far, ⟨ao, cap, hx, hs, fun b off e => ⟨(hn b off e).2.1, (hn b off e).1, (hn b off e).2.2.2.1, (hn b off e).2.2.2.2⟩⟩, hH (own_ne_own h.rH h.rK (by decide)), ho, (hG h.kg.symm).1, (hD h.kd.symm).1, (hG h.kg.symm).2.symm, (hD h.kd.symm).2.symm, h.gd⟩
theorem NvW.appG (h : NvW w0 g f H K G D vH vK vG vD w) (ho : OwnI w' w0.heap.size v' X') (hg : w.grownBy w' vG.ownBlock) (hl : v'.ownBlock = vG.ownBlock ∨ v'.ownBlock = some w.heap.size) : NvW w0 g f H K X' D vH vK v' vD w' := by
  obtain ⟨h1, ⟨ao, cap, hx, hs, hn⟩, hH, hK, hG, hD⟩ := h.grow h.rG (by decide) hg (fun ao cap hx b off e => (h.sep hx e).2.2.1) hl
  exact ⟨h1, h.far, ⟨ao, cap, hx, hs, fun b off e => ⟨(hn b off e).2.1, (hn b off e).2.2.1, (hn b off e).1, (hn b off e).2.2.2.2⟩⟩, hH (own_ne_own h.rH h.rG (by decide)), (hK h.kg).1, ho, (hD h.gd.symm).1, (hK h.kg).2, h.kd, (hD h.gd.symm).2.symm⟩
theorem NvW.appD (h : NvW w0 g f H K G D vH vK vG vD w) (ho : OwnI w' w0.heap.size v' X') (hg : w.grownBy w' vD.ownBlock) (hl : v'.ownBlock = vD.ownBlock ∨ v'.ownBlock = some w.heap.size) : NvW w0 g f H K G X' vH vK vG v' w' := by
  obtain ⟨h1, ⟨ao, cap, hx, hs, hn⟩, hH, hK, hG, hD⟩ := h.grow h.rD (by decide) hg (fun ao cap hx b off e => (h.sep hx e).2.2.2) hl
  exact ⟨h1, h.far, ⟨ao, cap, hx, hs, fun b off e => ⟨(hn b off e).2.1, (hn b off e).2.2.1, (hn b off e).2.2.2.1, (hn b off e).1⟩⟩, hH (own_ne_own h.rH h.rD (by decide)), (hK h.kd).1, (hG h.gd).1, ho, h.kg, (hK h.kd).2, (hG h.gd).2⟩
theorem NvW.appH (h : NvW w0 g f H K G D vH vK vG vD w) (ho : OwnP w' w0.heap.size v' H') (hg : w.grownBy w' vH.ownBlock) (hl : v'.ownBlock = vH.ownBlock ∨ v'.ownBlock = some w.heap.size) : NvW w0 g f H' K G D v' vK vG vD w' := by
  obtain ⟨h1, ⟨ao, cap, hx, hs, hn⟩, hH, hK, hG, hD⟩ := h.grow h.rH (by decide) hg (fun ao cap hx b off e => (h.sep hx e).1) hl
  exact ⟨h1, h.far, ⟨ao, cap, hx, hs, fun b off e => ⟨(hn b off e).1, (hn b off e).2.2.1, (hn b off e).2.2.2.1, (hn b off e).2.2.2.2⟩⟩, ho, (hK (own_ne_own h.rK h.rH (by decide))).1, (hG (own_ne_own h.rG h.rH (by decide))).1, (hD (own_ne_own h.rD h.rH (by decide))).1, h.kg, h.kd, h.gd⟩
/-- the held ones in a new row -/
theorem NvW.newH (h : NvW w0 g f H K G D vH vK vG vD w) (hb : Below w.heap.size w w') (ho : OwnP w' w.heap.size v' H') : NvW w0 g f H' K G D v' vK vG vD w' := by
  have hm := h.more hb
  obtain ⟨ao, cap, hx, hs, hn⟩ := h.sp
  refine ⟨hm.below, hm.far, ⟨ao, cap, hx.below hb hx.lt, hs.later hb, fun b off e => ⟨?_, (hn b off e).2⟩⟩, ?_, hm.rK, hm.rG, hm.rD, hm.kg, hm.kd, hm.gd⟩
  · intro e2
    have h1 := (ho.lt b e2).1
    subst e
    have := hs.at (by omega)
    omega
  · refine ⟨ho.1, ho.2.imp id ?_⟩
    rintro ⟨b, cap, cur, e1, e2, e3⟩
    exact ⟨b, cap, cur, e1, Nat.le_trans h.below.size e2, e3⟩
theorem NvW.nilD (h : NvW w0 g f H K G D vH vK vG vD w) : NvW w0 g f H K G [] vH vK vG (.slice none 0 0) w := by
  obtain ⟨ao, cap, hx, hs, hn⟩ := h.sp
  exact ⟨h.below, h.far, ⟨ao, cap, hx, hs, fun b off e => ⟨(hn b off e).1, (hn b off e).2.1, (hn b off e).2.2.1, fun e2 => (by cases e2)⟩⟩, h.rH, h.rK, h.rG, OwnI.nil _ _, h.kg, Apart.symm (.inl rfl), Apart.symm (.inl rfl)⟩
theorem NvW.nil3 (h : NvW w0 g f H K G D vH vK vG vD w) : NvW w0 g f H [] [] [] vH (.slice none 0 0) (.slice none 0 0) (.slice none 0 0) w := by
  obtain ⟨ao, cap, hx, hs, hn⟩ := h.sp
  exact ⟨h.below, h.far, ⟨ao, cap, hx, hs, fun b off e => ⟨(hn b off e).1, fun e2 => (by cases e2), fun e2 => (by cases e2), fun e2 => (by cases e2)⟩⟩, h.rH, OwnI.nil _ _, OwnI.nil _ _, OwnI.nil _ _, .inl rfl, .inl rfl, .inl rfl⟩
theorem NvW.lt (h : NvW w0 g f H K G D vH vK vG vD w) : g < w.heap.size := by
  obtain ⟨_, _, hx, _⟩ := h.sp
  exact hx.lt
end
theorem nvw_start {w0 w : World} {g cap : Nat} {ao : Option Addr} {f : Nat → Int} (hb : Below w0.heap.size w0 w) (hf : w0.heap.size ≤ g) (hx : Bs w g 3 20 6 ao 12 cap) (hs : St w w.heap.size ao 12 cap f) : NvW w0 g f [] [] [] [] (.slice none 0 0) (.slice none 0 0) (.slice none 0 0) (.slice none 0 0) w :=
  ⟨hb, hf, ⟨ao, cap, hx, hs, fun b off _ => ⟨fun e2 => (by cases e2), fun e2 => (by cases e2), fun e2 => (by cases e2), fun e2 => (by cases e2)⟩⟩, OwnP.nil _ _, OwnI.nil _ _, OwnI.nil _ _, OwnI.nil _ _, .inl rfl, .inl rfl, .inl rfl⟩

set_option maxRecDepth 10000 in
/-- append(v, k), v the call's own, and where it lies -/
theorem append_iL {w : World} {ops : Array Oper} {rest : List Oper} {o : Oper} {a : Act} {Q : Exit → Act → World → Prop} (hgd : o.guard = none) (s x : Operand)
    (ho : o.op = .call { callee := .builtin .append, args := #[s, x], argTypes := #[49, 49] }) (base : Nat) (v : Value) (ys : List Int) (hs : a.eval s = v) (hown : OwnI w base v ys)
    (b c : Nat) (k : Int) (hx : a.eval x = .slice (some ⟨b, 0, none⟩) 1 c) (hc : w.cell? ⟨b, 0, none⟩ = some (.int .i64 k)) (hlen : ys.length ≤ 1099511627776) (hbase : base ≤ w.heap.size)
    (h : ∀ v' w', OwnI w' base v' (ys ++ [k]) → w.grownBy w' v.ownBlock → (v'.ownBlock = v.ownBlock ∨ v'.ownBlock = some w.heap.size) → wpList Try.prog ops Q rest (a.put o.dst v') w') : wpList Try.prog ops Q (o :: rest) a w := by
  obtain ⟨i0, hi, hz0, hz1, hz2⟩ := info_parts int_info
  refine wpList_append_own_at w hgd s x 49 ho base 3 i0 (.int .i64 0) 1 8 int_slice hi hz0 hz1 hz2 rfl (by decide) v ys.length (ints ys) hs hown ⟨b, 0, none⟩ 1 c [.int .i64 k] hx (by simp) ?_ (by intro u hu; simp at hu; subst hu; rfl) (by unfold maxLen; omega) (by omega) hbase ?_
  · intro j u hu
    obtain rfl : j = 0 := by
      have := (List.getElem?_eq_some_iff.1 hu).1
      simpa using this
    simp at hu
    subst hu
    simpa [Addr.add] using hc
  · intro v' w' h1 h2 _ h4
    refine h v' w' ?_ h2 h4
    unfold OwnI
    rw [List.length_append, ints_append]
    exact h1
theorem news_one (w : World) (p : Pt.Pn) (t : TypeId) : ∀ j u, (pcs [p])[j]? = some u → (w.alloc (.cells (Pt.pV p).toArray t)).cell? ((⟨w.heap.size, 0, none⟩ : Addr).add j) = some u := by
  rw [pcs_single]
  intro j u hu
  have hadd : (⟨w.heap.size, 0, none⟩ : Addr).add j = ⟨w.heap.size, j, none⟩ := by unfold Addr.add; split <;> simp_all
  rw [hadd, cell_of_row _ w.heap.size j _ t _ (heap_alloc_new w _)]
  simpa using hu
theorem fillP (p : Pt.Pn) : Instr.fill (fun i => some (i * 34, 34)) ((Array.range (1 * 34)).map ((Value.agg (Pt.pV Pt.pz).toArray).cells[· % (Value.agg (Pt.pV Pt.pz).toArray).cells.size]!)) [(0, .agg (Pt.pV p).toArray)] = some (Pt.pV p).toArray := by kernel_rfl
theorem wpList_sliceP {w : World} {ops : Array Oper} {rest : List Oper} {o : Oper} {a : Act} {Q : Exit → Act → World → Prop} (hgd : o.guard = none) (p : Pt.Pn) (x : Operand) (ho : o.op = .buildSlice 48 1 #[(0, x)]) (hx : a.eval x = .agg (Pt.pV p).toArray)
    (h : wpList Try.prog ops Q rest (a.put o.dst (.slice (some ⟨w.heap.size, 0, none⟩) 1 1)) (w.alloc (.cells (Pt.pV p).toArray 44))) : wpList Try.prog ops Q (o :: rest) a w := by
  obtain ⟨i0, hi, hz0, hz1, hz2⟩ := info_parts inf_ptr
  refine wpList_buildSlice hgd 48 44 1 #[(0, x)] ho _ i0 _ und_ptrs hi hz0 (by rw [hz1]; decide) (by rw [hz1]; decide) ?_ h
  rw [hz1]
  simp only [List.map_toArray, List.map_cons, List.map_nil, hx]
  exact fillP p
theorem run_app_pts {w : World} {base : Nat} {v : Value} {H L : List Pt.Pn} (ty : TypeId) (hown : OwnP w base v H) (ad : Addr) (m c : Nat) (hm : m = L.length) (hnews : ∀ j u, (pcs L)[j]? = some u → w.cell? (ad.add j) = some u) (hlen : H.length + L.length ≤ 1000000) (hbase : base ≤ w.heap.size) :
    ∃ v' w', (Builtin.append_ #[48, 48] ty #[v, .slice (some ad) m c]).run Try.prog w = .ok v' w' ∧ OwnP w' base v' (H ++ L) ∧ w.grownBy w' v.ownBlock ∧ (v'.ownBlock = v.ownBlock ∨ v'.ownBlock = some w.heap.size) := by
  obtain ⟨i0, hi, hz0, hz1, hz2⟩ := info_parts inf_ptr
  subst hm
  obtain ⟨v', w', h1, h2, h3, _, h5⟩ := run_append_own_at (P := Try.prog) w base 48 ty 44 i0 _ 34 48 und_ptrs hi hz0 hz1 hz2 (by show (Pt.pV Pt.pz).toArray.size = 34; exact Pt.pV_asize _) (by decide) v H.length (pcs H) hown ad L.length c (pcs L) (pcs_len L) hnews (pcs_one L) (by unfold maxLen; omega) (by omega) hbase
  refine ⟨v', w', h1, ?_, h3, h5⟩
  unfold OwnP
  rw [List.length_append, pcs_append]
  exact h2
theorem wpList_appP {w : World} {ops : Array Oper} {rest : List Oper} {o : Oper} {a : Act} {Q : Exit → Act → World → Prop} (hgd : o.guard = none) (s x : Operand)
    (ho : o.op = .call { callee := .builtin .append, args := #[s, x], argTypes := #[48, 48] }) (base : Nat) (v : Value) (H L : List Pt.Pn) (hs : a.eval s = v) (hown : OwnP w base v H)
    (ad : Addr) (m c : Nat) (hx : a.eval x = .slice (some ad) m c) (hm : m = L.length) (hnews : ∀ j u, (pcs L)[j]? = some u → w.cell? (ad.add j) = some u) (hlen : H.length + L.length ≤ 1000000) (hbase : base ≤ w.heap.size)
    (h : ∀ v' w', OwnP w' base v' (H ++ L) → w.grownBy w' v.ownBlock → (v'.ownBlock = v.ownBlock ∨ v'.ownBlock = some w.heap.size) → wpList Try.prog ops Q rest (a.put o.dst v') w') : wpList Try.prog ops Q (o :: rest) a w := by
  refine wpList_plain hgd fun K hK => ?_
  obtain ⟨v', w', hr, h2, h3, h4⟩ := run_app_pts o.type hown ad m c hm hnews hlen hbase
  unfold Oper.wp execOp
  simp only [ho, resolve, invoke, builtin, Sem.run_bind, Sem.run_pure, Result.andThen_ok, List.map_toArray, List.map_cons, List.map_nil, hs, hx, hr]
  exact hK _ _ (h v' w' h2 h3 h4)
theorem step_appP {w : World} {ops : Array Oper} {o : Oper} {a : Act} {K : Act → World → Prop} {Q : Exit → Act → World → Prop} {E : Prop} (hgd : o.guard = none) (s x : Operand)
    (ho : o.op = .call { callee := .builtin .append, args := #[s, x], argTypes := #[48, 48] }) (base : Nat) (v : Value) (H L : List Pt.Pn) (hs : a.eval s = v) (hown : OwnP w base v H)
    (ad : Addr) (m c : Nat) (hx : a.eval x = .slice (some ad) m c) (hm : m = L.length) (hnews : ∀ j u, (pcs L)[j]? = some u → w.cell? (ad.add j) = some u) (hlen : H.length + L.length ≤ 1000000) (hbase : base ≤ w.heap.size)
    (h : ∀ v' w', OwnP w' base v' (H ++ L) → w.grownBy w' v.ownBlock → (v'.ownBlock = v.ownBlock ∨ v'.ownBlock = some w.heap.size) → K (a.put o.dst v') w') : if Region.wanted o (yielded ops a.tmps) = true then Oper.wp Try.prog o a w K Q else E := by
  have hw : Region.wanted o (yielded ops a.tmps) = true := by simp [Region.wanted, hgd]
  rw [if_pos hw]
  obtain ⟨v', w', hr, h2, h3, h4⟩ := run_app_pts o.type hown ad m c hm hnews hlen hbase
  unfold Oper.wp execOp
  simp only [ho, resolve, invoke, builtin, Sem.run_bind, Sem.run_pure, Result.andThen_ok, List.map_toArray, List.map_cons, List.map_nil, hs, hx, hr]
  exact h v' w' h2 h3 h4
theorem drew_alloc (w : World) (o : Obj) : Below w.heap.size w (w.alloc o).drew := ((Below.refl _ _).alloc (Nat.le_refl _) o).trans ⟨rfl, rfl, rfl, Nat.le_refl _, fun _ _ => rfl⟩
theorem own_none (w : World) : OwnP ((w.alloc (.cells #[] 44)).drew) w.heap.size (.slice (some ⟨w.heap.size, 0, none⟩) 0 0) [] := World.ownsRow_lit w #[] 0 (Nat.le_refl _) (by unfold maxLen; omega) rfl
/-- in a region that draws: append of a whole slice, the new value written out -/
theorem step_appS {w : World} {ops : Array Oper} {o : Oper} {a : Act} {K : Act → World → Prop} {Q : Exit → Act → World → Prop} {E : Prop} (hgd : o.guard = none) (s x : Operand)
    (ho : o.op = .call { callee := .builtin .append, args := #[s, x], argTypes := #[48, 48] }) (base : Nat) (v : Value) (H L L' : List Pt.Pn) (n' : Nat) (hs : a.eval s = v) (hown : OwnP w base v H)
    (ad : Addr) (m c : Nat) (hx : a.eval x = .slice (some ad) m c) (hm : m = L.length) (hL : H ++ L = L') (hn : n' = L'.length) (hnews : ∀ j u, (pcs L)[j]? = some u → w.cell? (ad.add j) = some u) (hlen : H.length + L.length ≤ 1000000) (hbase : base ≤ w.heap.size)
    (h : ∀ a' c' w', OwnP w' base (.slice a' n' c') L' → w.grownBy w' v.ownBlock → K (a.put o.dst (.slice a' n' c')) w') : if Region.wanted o (yielded ops a.tmps) = true then Oper.wp Try.prog o a w K Q else E := by
  refine step_appP hgd s x ho base v H L hs hown ad m c hx hm hnews hlen hbase ?_
  intro v' w' ho' hg _
  subst hn
  rw [hL] at ho'
  obtain ⟨a', c', rfl⟩ := ho'.shape
  exact h a' c' w' ho' hg
theorem NvW.cells {w0 w : World} {g n c b : Nat} {f : Nat → Int} {H : List Pt.Pn} {K G D : List Int} {vK vG vD : Value} (h : NvW w0 g f H K G D (.slice (some ⟨b, 0, none⟩) n c) vK vG vD w) (hn : 0 < H.length) : ∀ w', Below w.heap.size w w' → ∀ j u, (pcs H)[j]? = some u → w'.cell? ⟨b, j, none⟩ = some u := by
  intro w' hw' j u hu
  rcases h.rH.slice with ⟨_, h2⟩ | ⟨b', cap, h1, _, h3, _, hc⟩
  · rw [h2] at hn; simp at hn
  · injection h1 with h1 _ _
    injection h1 with h1
    injection h1 with h1 _ _
    subst h1
    exact (hw'.cell (p := ⟨b, j, none⟩) h3).trans (hc j u hu)
/-- a block of another type is left alone by an append -/
theorem blk_app {w w' : World} {qb B k n : Nat} {c : Array Value} {T e : TypeId} {v : Value} {xs : List Value} {o : Obj} (hq : w.heap[qb]? = some (.cells c T (0, 0))) (ho : w.ownsRow B e k v n xs) (hne : e ≠ T) (hg : (w.alloc o).grownBy w' v.ownBlock) : w'.heap[qb]? = some (.cells c T (0, 0)) := by
  have hlt : qb < w.heap.size := (Array.getElem?_eq_some_iff.1 hq).1
  rw [hg.block qb (by simp; omega) ?_, Below.heap_alloc _ _ _ hlt]
  · exact hq
  · intro he
    rcases ho.2 with ⟨hv, _⟩ | ⟨b, cap, cur, hv, _, hc, _⟩
    · subst hv; cases he
    · subst hv
      injection he with he
      simp only at he
      subst he
      rw [hq] at hc
      injection hc with hc
      injection hc with _ hc _
      exact hne hc.symm
end Sp
end Go.Proofs.Ytdbmdocmnhgbpaa
