/- space: Clone, become, allBecome. -/
import Derived.Test.YtdbmdocmnhgbpaaSpFf
import Derived.BigRegion
import Derived.Laws.Cover3
namespace Go.Proofs.Ytdbmdocmnhgbpaa
set_option maxRecDepth 20000
namespace Sp
open Go.RowKit Dk Eqb Byt

theorem only_new {g b : Nat} {a w : World} (h : a.grownBy w (some g)) (hb : a.heap.size ≤ b) (j : Nat) (v : Value) : a.grownBy (w.setCell ⟨b, j, none⟩ v) (some g) :=
  ⟨h.os, h.tape, h.output, by have := h.size; simpa using this, fun k hk hr => (Below.heap_setCell _ _ _ _ (show k ≠ b by omega)).trans (h.block k hk hr)⟩
theorem only_below {g : Nat} {a w w' : World} (h : a.grownBy w (some g)) (hb : Below w.heap.size w w') : a.grownBy w' (some g) :=
  ⟨hb.os.trans h.os, hb.tape.trans h.tape, hb.output.trans h.output, Nat.le_trans h.size hb.size, fun k hk hr => (hb.block k (Nat.lt_of_lt_of_le hk h.size)).trans (h.block k hk hr)⟩
/-- a slice of states lies in no variable of a space -/
theorem St.apart {w : World} {K g n cap n' cap' b off : Nat} {A B Z : Int} {ao' : Option Addr} {f : Nat → Int} (h : St w K (some ⟨b, off, none⟩) n cap f) (hn : 0 < n) (hx : Bs w g A B Z ao' n' cap') : b ≠ g := by
  rintro rfl
  obtain ⟨b', off', e, _, _, hc⟩ := bytes_tab h.lies hn
  injection e with e
  injection e with e1 e2
  subst e1 e2
  have h1 := hc 0 hn
  rw [cell_of_row w b _ _ _ _ hx] at h1
  simp only [Nat.add_zero] at h1
  match off, h1 with
  | 0, h1 => simp at h1
  | 1, h1 => simp at h1
  | 2, h1 => simp at h1
  | 3, h1 => simp at h1
  | k + 4, h1 => simp at h1
theorem St.keepG {w w' : World} {K g n cap n' cap' : Nat} {A B Z : Int} {ao ao' : Option Addr} {f : Nat → Int} (h : St w K ao n cap f) (hK : K ≤ w.heap.size) (hx : Bs w g A B Z ao' n' cap') (hg : w.grownBy w' (some g)) : St w' w'.heap.size ao n cap f := by
  refine ⟨⟨h.lies.room, h.lies.nil, fun hne => ?_⟩, h.byte, h.room⟩
  obtain ⟨b, off, e, hb, hc⟩ := h.lies.cells hne
  have hn : 0 < n := by
    rcases Nat.eq_zero_or_pos n with h0 | h0
    · exact absurd (by rw [h0]; rfl) hne
    · exact h0
  subst e
  have hbg := h.apart hn hx
  have hbl : w'.heap[b]? = w.heap[b]? := hg.block b (by omega) (by simpa using hbg)
  exact ⟨b, off, rfl, by have := hg.size; omega, fun i hi => (World.cell?_of_block (a := ⟨b, off + i, none⟩) hbl).trans (hc i hi)⟩

/-- what a call has done to the space in block g -/
structure Turn (w : World) (g : Nat) (A B Z : Int) (n : Nat) (f : Nat → Int) (w' : World) : Prop where
  sp : ∃ ao cap, Bs w' g A B Z ao n cap ∧ St w' w'.heap.size ao n cap f
  only : w.grownBy w' (some g)
  loc : ∀ b off cap, Bs w' g A B Z (some ⟨b, off, none⟩) n cap → g < w.heap.size → w.heap.size ≤ b ∨ ∃ cap', Bs w g A B Z (some ⟨b, off, none⟩) n cap'
/-- a variable of a space holds one space -/
theorem Bs.same {w : World} {g n n' cap cap' : Nat} {A B Z : Int} {ao ao' : Option Addr} (h : Bs w g A B Z ao n cap) (h' : Bs w g A B Z ao' n' cap') : ao = ao' := by
  have := h.c3.symm.trans h'.c3
  injection this with this
  injection this

theorem eqlnilB (w : World) (a : Option Addr) (l c : Nat) : (binOp .eql 24 (.slice a l c) (.slice none 0 0)).run Try.prog w = .ok (.bool a.isNone) w := by
  simp only [binOp]
  simp [run_equal_slice_nil w _ _ a l c bytes_slice]
set_option maxHeartbeats 1000000 in
theorem clone_any (ao : Option Addr) (n cap : Nat) (f : Nat → Int) (w : World) (hs : St w w.heap.size ao n cap f) (h1 : 0 < n) :
    Calls Try.prog 52 #[.slice ao n cap] w fun e w' => ∃ b cap', e = .returned (.slice (some ⟨b, 0, none⟩) n cap') ∧ w.heap.size ≤ b ∧ n ≤ cap' ∧ Row w' b 0 n f ∧ Below w.heap.size w w' := by
  obtain ⟨b0, off0, rfl, hb0, _, _⟩ := bytes_tab hs.lies h1
  have hl := hs.lies
  have hr := hs.room
  have HE : Hid ((tab n f).length = n) := Lib.hid (by simp [tab])
  have hq := fun (w : World) => eqlnilB w (some ⟨b0, off0, none⟩) n cap
  clear hs
  go_enter Try.func52, Try.ntmps52
  go_wp2_with (at_builtin; go_loud (refine append_lies rfl (.tmp 5) (.tmp 6) rfl w.heap.size _ [] rfl (World.ownsRow_lit w #[] 0 (Nat.le_refl _) (by decide) rfl) w.heap.size (some ⟨b0, off0, none⟩) cap (tab n f) n HE.out.symm rfl (hl.keep fun p hp => World.cell?_alloc_lt _ _ _ hp) (by rw [HE.out]; simp; omega) (by simp) ?_); intro v' w' hown hg)
  have hown' : w'.ownsRow w.heap.size 5 1 v' n (bys (tab n f)) := by
    rw [List.nil_append, HE.out] at hown
    exact hown
  have hb : Below w.heap.size w w' := ((Below.refl _ _).alloc (Nat.le_refl _) _).grown hg (by simp) (by
    intro k hk
    injection hk with hk
    subst hk
    exact Nat.le_refl _)
  rcases row_own HE.out.symm hown' with ⟨_, h0⟩ | ⟨g, cap', rfl, hgb, hc, _, hrow⟩
  · omega
  · go_ret
    exact ⟨g, cap', rfl, hgb, hc, hrow.congr fun j hj => tab_getD n f hj, hb⟩

/-- what each state becomes -/
def nx (a b c d e : Int) : Nat → Int
  | 0 => a
  | 1 => b
  | 2 => c
  | 3 => d
  | _ => e
def R5 (w : World) (q : Nat) (a b c d e : Int) : Prop := w.heap[q]? = some (.cells #[.int .u8 a, .int .u8 b, .int .u8 c, .int .u8 d, .int .u8 e] 61 (0, 0))
theorem R5.cell {w : World} {q : Nat} {a b c d e : Int} (h : R5 w q a b c d e) {k : Nat} (hk : k < 5) : w.cell? ⟨q, k, none⟩ = some (.int .u8 (nx a b c d e k)) := by
  rw [cell_of_row w q k _ _ _ h]
  match k, hk with
  | 0, _ => rfl
  | 1, _ => rfl
  | 2, _ => rfl
  | 3, _ => rfl
  | 4, _ => rfl
/-- in a loop that turns the states -/
structure BeI (w : World) (g : Nat) (A B Z : Int) (b n cap q : Nat) (n0 n1 n2 n3 n4 : Int) (F : Nat → Int) (wr : World) : Prop where
  sp : Bs wr g A B Z (some ⟨b, 0, none⟩) n cap
  row : Row wr b 0 n F
  nxt : R5 wr q n0 n1 n2 n3 n4
  only : w.grownBy wr (some g)
  new : w.heap.size ≤ b
  ne : b ≠ g ∧ b ≠ q
  room : n ≤ cap
theorem BeI.turn {w wr : World} {g b n cap q : Nat} {A B Z n0 n1 n2 n3 n4 : Int} {F : Nat → Int} (h : BeI w g A B Z b n cap q n0 n1 n2 n3 n4 F wr) (hF : ∀ i, i < n → 0 ≤ F i ∧ F i ≤ 4) (hn : n ≤ 140737488355328) : Turn w g A B Z n F wr :=
  ⟨⟨_, _, h.sp, h.row.lies h.row.lt h.room, fun i hi => by have := hF i hi; omega, hn⟩, h.only, fun b' off' _ hb' _ => .inl (by
    have := h.sp.same hb'
    injection this with this
    injection this with this
    have := h.new
    omega)⟩
theorem BeI.store {w wr : World} {g b n cap q : Nat} {A B Z n0 n1 n2 n3 n4 : Int} {F : Nat → Int} (h : BeI w g A B Z b n cap q n0 n1 n2 n3 n4 F wr) (j : Nat) (z : Int) : BeI w g A B Z b n cap q n0 n1 n2 n3 n4 (put F j z) (wr.setCell ⟨b, j, none⟩ (.int .u8 z)) :=
  ⟨h.sp.block (heap_setCell_other _ _ _ _ (Ne.symm h.ne.1)), by have := h.row.store j z; rwa [Nat.zero_add] at this, (heap_setCell_other _ _ _ _ (Ne.symm h.ne.2)).trans h.nxt, only_new h.only h.new j _, h.new, h.ne, h.room⟩
theorem BeI.drew {w wr : World} {g b n cap q : Nat} {A B Z n0 n1 n2 n3 n4 : Int} {F : Nat → Int} (h : BeI w g A B Z b n cap q n0 n1 n2 n3 n4 F wr) : BeI w g A B Z b n cap q n0 n1 n2 n3 n4 F wr.drew :=
  ⟨h.sp, ⟨h.row.cur⟩, h.nxt, ⟨h.only.os, h.only.tape, h.only.output, h.only.size, h.only.block⟩, h.new, h.ne, h.room⟩
/-- the states behind k of these turns -/
def bec (N : Nat → Int) (L : Nat → Nat) (f : Nat → Int) : Nat → Nat → Int
  | 0 => f
  | k + 1 => put (bec N L f k) (L k) (N (bec N L f k (L k)).toNat)
theorem put_bd {f : Nat → Int} {n j : Nat} {z : Int} (h : ∀ i, i < n → 0 ≤ f i ∧ f i ≤ 4) (hz : 0 ≤ z ∧ z ≤ 4) : ∀ i, i < n → 0 ≤ put f j z i ∧ put f j z i ≤ 4 := by
  intro i hi
  unfold put
  split
  · exact hz
  · exact h i hi
theorem bec_bd {N : Nat → Int} {L : Nat → Nat} {f : Nat → Int} {n m : Nat} (hN : ∀ k, k < 5 → 0 ≤ N k ∧ N k ≤ 4) (hf : ∀ i, i < n → 0 ≤ f i ∧ f i ≤ 4) (hL : ∀ i, i < m → L i < n) : ∀ {k : Nat}, k ≤ m → ∀ i, i < n → 0 ≤ bec N L f k i ∧ bec N L f k i ≤ 4
  | 0, _ => hf
  | k + 1, hk => by
    have ih := bec_bd hN hf hL (k := k) (by omega)
    have h1 := ih (L k) (hL k (by omega))
    exact put_bd ih (hN _ (by omega))

set_option maxRecDepth 100000 in
set_option maxHeartbeats 4000000 in
theorem become_any (g : Nat) (A B Z : Int) (ao : Option Addr) (n cap : Nat) (f : Nat → Int) (n0 n1 n2 n3 n4 : Int) (pa : Option Addr) (m mc : Nat) (L : Nat → Nat) (w : World) (hx : Bs w g A B Z ao n cap) (hs : St w w.heap.size ao n cap f) (h1 : 0 < n) (hf : ∀ i, i < n → 0 ≤ f i ∧ f i ≤ 4)
    (hN : ∀ k, k < 5 → 0 ≤ nx n0 n1 n2 n3 n4 k ∧ nx n0 n1 n2 n3 n4 k ≤ 4) (hm : m ≤ 140737488355328) (hL : ∀ i, i < m → L i < n) (hp : m = 0 ∨ ∃ pb po, pa = some ⟨pb, po, none⟩ ∧ pb < w.heap.size ∧ pb ≠ g ∧ ∀ i, i < m → w.cell? ⟨pb, po + i, none⟩ = some (.int .i64 (L i))) :
    Calls Try.prog 42 #[.pointer (some ⟨g, 0, none⟩), .agg #[.int .u8 n0, .int .u8 n1, .int .u8 n2, .int .u8 n3, .int .u8 n4], .slice pa m mc] w fun e w' => (∃ v, e = .returned v) ∧ Turn w g A B Z n (bec (nx n0 n1 n2 n3 n4) L f m) w' := by
  obtain ⟨W, hW, hbW, hsW, hqW⟩ : ∃ W, W = w.alloc (.cells #[.int .u8 n0, .int .u8 n1, .int .u8 n2, .int .u8 n3, .int .u8 n4] 61) ∧ Below w.heap.size w W ∧ W.heap.size = w.heap.size + 1 ∧ R5 W w.heap.size n0 n1 n2 n3 n4 := ⟨_, rfl, (Below.refl _ _).alloc (Nat.le_refl _) _, by simp, heap_alloc_new _ _⟩
  have hgl := hx.lt
  have yW := hx.below hbW hgl
  have k3 := hx.c3
  have HCl := Lib.hid (clone_any ao n cap f W (hs.later hbW) h1)
  have hnr := hs.room
  have HP := Lib.hid hp
  have HL := Lib.hid hL
  have HB := Lib.hid (fun k (hk : k ≤ m) => bec_bd hN hf hL hk)
  clear hs hp hL hN hf
  go_enter Try.func42, Try.ntmps42
  go_wp2_with fail
  rw [← hW]
  clear hW
  refine HCl.out.mono ?_
  rintro _ w1 ⟨b, cap', rfl, hb, hc, hrow, hb1⟩
  dsimp only
  have y1 := yW.below hb1 (by omega)
  have yf := y1.fr 3
  have k3' := y1.c3
  have HI : Hid (BeI w g A B Z b n cap' w.heap.size n0 n1 n2 n3 n4 (bec (nx n0 n1 n2 n3 n4) L f 0) (w1.setCell ⟨g, 3, none⟩ (.slice (some ⟨b, 0, none⟩) n cap'))) := Lib.hid
    ⟨y1.s3 _ _ _, hrow.block (heap_setCell_other _ _ _ _ (show b ≠ g by omega)), (heap_setCell_other _ _ _ _ (show w.heap.size ≠ g by omega)).trans ((hb1.block _ (by omega)).trans hqW), only_store (only_below (only_below (World.grownBy.refl _ _) hbW) hb1) 3 _, by omega, ⟨by omega, by omega⟩, hc⟩
  clear hrow hb1 hbW hqW yW k3 hx HCl
  go_wp2_with fail
  generalize w1.setCell ⟨g, 3, none⟩ (.slice (some ⟨b, 0, none⟩) n cap') = w2 at HI ⊢
  go_loopw [18] (fun i wr => ∃ j : Nat, j ≤ m ∧ i = .int .i64 j ∧ Hid (BeI w g A B Z b n cap' w.heap.size n0 n1 n2 n3 n4 (bec (nx n0 n1 n2 n3 n4) L f j) wr)) (fun i _ => m - (intOf i).toNat)
  case atStart => exact ⟨0, by omega, rfl, HI⟩
  case round =>
    clear HI
    obtain ⟨j, hj, rfl, hI⟩ := hrel
    by_cases hlt : j < m
    · obtain ⟨pb, po, rfl, hpb, hpg, hpc⟩ := HP.out.resolve_left (by omega)
      have hcj := (World.cell?_of_block (a := ⟨pb, po + j, none⟩) (hI.out.only.block pb hpb (by simpa using hpg))).trans (hpc j hlt)
      have hli := HL.out j hlt
      have hj0 : (0 : Int) ≤ (j : Int) := by omega
      have hjm : (j : Int) < (m : Int) := by omega
      have hbd := HB.out j (by omega) (L j) hli
      have c3 := hI.out.sp.c3
      have cb := hI.out.row.cell hli
      have cf := hI.out.row.free (L j)
      obtain ⟨v, hv⟩ : ∃ v : Nat, bec (nx n0 n1 n2 n3 n4) L f j (L j) = v := ⟨_, (Int.toNat_of_nonneg hbd.1).symm⟩
      have hv5 : v < 5 := by omega
      have cn := hI.out.nxt.cell hv5
      have HN := Lib.hid (hI.out.store (L j) (nx n0 n1 n2 n3 n4 v))
      have HN2 : Hid (BeI w g A B Z b n cap' w.heap.size n0 n1 n2 n3 n4 (put (bec (nx n0 n1 n2 n3 n4) L f j) (L j) (nx n0 n1 n2 n3 n4 v)) (wr.drew.setCell ⟨b, L j, none⟩ (.int .u8 (nx n0 n1 n2 n3 n4 v)))) := Lib.hid (hI.out.drew.store (L j) (nx n0 n1 n2 n3 n4 v))
      have HQ : Hid (bec (nx n0 n1 n2 n3 n4) L f (j + 1) = put (bec (nx n0 n1 n2 n3 n4) L f j) (L j) (nx n0 n1 n2 n3 n4 v)) := Lib.hid (by rw [bec, hv, Int.toNat_natCast])
      rw [hv, Nat.zero_add] at cb
      clear hbd hv hI hpc
      generalize nx n0 n1 n2 n3 n4 v = u at *
      generalize L j = i at *
      have hi0 : (0 : Int) ≤ (i : Int) := by omega
      have hin : (i : Int) < (n : Int) := by omega
      have hv0 : (0 : Int) ≤ (v : Int) := by omega
      have hv6 : (v : Int) < 5 := by omega
      clear hli hv5
      go_wp2_with fail
      go_region
      go_wp2_with fail
      go_roundw
      case rel => exact ⟨j + 1, by omega, by go_num, by rw [HQ.out]; exact HN2⟩
      case measure => simp [intOf]; omega
    · obtain rfl : j = m := by omega
      go_wp2_with fail
      go_end0
      exact ⟨⟨_, rfl⟩, hI.out.turn (HB.out j (Nat.le_refl _)) hnr⟩
theorem Turn.congr {w w' : World} {g n : Nat} {A B Z : Int} {f f' : Nat → Int} (h : Turn w g A B Z n f w') (he : ∀ i, i < n → f i = f' i) : Turn w g A B Z n f' w' := by
  obtain ⟨⟨ao, cap, h1, h2⟩, h3, h4⟩ := h
  exact ⟨⟨ao, cap, h1, ⟨by rw [← tab_congr he]; exact h2.lies, fun i hi => by rw [← he i hi]; exact h2.byte i hi, h2.room⟩⟩, h3, h4⟩
/-- all states, turned; the first k of them -/
def alT (N : Nat → Int) (f : Nat → Int) (i : Nat) : Int := N (f i).toNat
def alB (N : Nat → Int) (f : Nat → Int) (k i : Nat) : Int := if i < k then N (f i).toNat else f i
theorem alB_zero (N : Nat → Int) (f : Nat → Int) (i : Nat) : alB N f 0 i = f i := rfl
theorem alB_here {N : Nat → Int} {f : Nat → Int} {i : Nat} : alB N f i i = f i := if_neg (by omega)
theorem alB_all {N : Nat → Int} {f : Nat → Int} {n i : Nat} (h : i < n) : alB N f n i = alT N f i := if_pos h
theorem alB_next {N : Nat → Int} {f : Nat → Int} {k : Nat} : put (alB N f k) k (N (f k).toNat) = alB N f (k + 1) := by
  funext i
  unfold put alB
  by_cases h : i = k
  · subst h; rw [if_pos rfl, if_pos (by omega)]
  · rw [if_neg h]
    by_cases h2 : i < k
    · rw [if_pos h2, if_pos (by omega)]
    · rw [if_neg h2, if_neg (by omega)]
theorem alB_bd {N : Nat → Int} {f : Nat → Int} {n k : Nat} (hN : ∀ k, k < 5 → 0 ≤ N k ∧ N k ≤ 4) (hf : ∀ i, i < n → 0 ≤ f i ∧ f i ≤ 4) : ∀ i, i < n → 0 ≤ alB N f k i ∧ alB N f k i ≤ 4 := by
  intro i hi
  have := hf i hi
  unfold alB
  split
  · exact hN _ (by omega)
  · exact this

set_option maxRecDepth 100000 in
set_option maxHeartbeats 4000000 in
theorem allBecome_any (g : Nat) (A B Z : Int) (ao : Option Addr) (n cap : Nat) (f : Nat → Int) (n0 n1 n2 n3 n4 : Int) (w : World) (hx : Bs w g A B Z ao n cap) (hs : St w w.heap.size ao n cap f) (h1 : 0 < n) (hf : ∀ i, i < n → 0 ≤ f i ∧ f i ≤ 4)
    (hN : ∀ k, k < 5 → 0 ≤ nx n0 n1 n2 n3 n4 k ∧ nx n0 n1 n2 n3 n4 k ≤ 4) :
    Calls Try.prog 50 #[.pointer (some ⟨g, 0, none⟩), .agg #[.int .u8 n0, .int .u8 n1, .int .u8 n2, .int .u8 n3, .int .u8 n4]] w fun e w' => (∃ v, e = .returned v) ∧ Turn w g A B Z n (alT (nx n0 n1 n2 n3 n4) f) w' := by
  obtain ⟨W, hW, hbW, hsW, hqW⟩ : ∃ W, W = w.alloc (.cells #[.int .u8 n0, .int .u8 n1, .int .u8 n2, .int .u8 n3, .int .u8 n4] 61) ∧ Below w.heap.size w W ∧ W.heap.size = w.heap.size + 1 ∧ R5 W w.heap.size n0 n1 n2 n3 n4 := ⟨_, rfl, (Below.refl _ _).alloc (Nat.le_refl _) _, by simp, heap_alloc_new _ _⟩
  have hgl := hx.lt
  have yW := hx.below hbW hgl
  have k3 := hx.c3
  have HCl := Lib.hid (clone_any ao n cap f W (hs.later hbW) h1)
  have hnr := hs.room
  have HF := Lib.hid hf
  have HN0 := Lib.hid hN
  clear hs hN hf
  go_enter Try.func50, Try.ntmps50
  go_wp2_with fail
  rw [← hW]
  clear hW
  refine HCl.out.mono ?_
  rintro _ w1 ⟨b, cap', rfl, hb, hc, hrow, hb1⟩
  dsimp only
  have y1 := yW.below hb1 (by omega)
  have yf := y1.fr 3
  have k3' := y1.c3
  have HI : Hid (BeI w g A B Z b n cap' w.heap.size n0 n1 n2 n3 n4 (alB (nx n0 n1 n2 n3 n4) f 0) (w1.setCell ⟨g, 3, none⟩ (.slice (some ⟨b, 0, none⟩) n cap'))) := Lib.hid
    ⟨y1.s3 _ _ _, (hrow.congr fun j _ => (alB_zero _ f j).symm).block (heap_setCell_other _ _ _ _ (show b ≠ g by omega)), (heap_setCell_other _ _ _ _ (show w.heap.size ≠ g by omega)).trans ((hb1.block _ (by omega)).trans hqW), only_store (only_below (only_below (World.grownBy.refl _ _) hbW) hb1) 3 _, by omega, ⟨by omega, by omega⟩, hc⟩
  have HC3 := Lib.hid ((y1.s3 (some ⟨b, 0, none⟩) n cap').c3)
  clear hrow hb1 hbW hqW yW k3 hx HCl
  have hz := HC3.out
  go_wp2_with fail
  generalize w1.setCell ⟨g, 3, none⟩ (.slice (some ⟨b, 0, none⟩) n cap') = w2 at HI HC3 hz ⊢
  clear HC3 hz
  go_loopw [19] (fun i wr => ∃ j : Nat, j ≤ n ∧ i = .int .i64 j ∧ Hid (BeI w g A B Z b n cap' w.heap.size n0 n1 n2 n3 n4 (alB (nx n0 n1 n2 n3 n4) f j) wr)) (fun i _ => n - (intOf i).toNat)
  case atStart => exact ⟨0, by omega, rfl, HI⟩
  case round =>
    clear HI
    obtain ⟨j, hj, rfl, hI⟩ := hrel
    by_cases hlt : j < n
    · have hj0 : (0 : Int) ≤ (j : Int) := by omega
      have hjm : (j : Int) < (n : Int) := by omega
      have c3 := hI.out.sp.c3
      have cb := hI.out.row.cell hlt
      have cf := hI.out.row.free j
      have hfj := HF.out j hlt
      obtain ⟨v, hv⟩ : ∃ v : Nat, f j = v := ⟨_, (Int.toNat_of_nonneg hfj.1).symm⟩
      have hv5 : v < 5 := by omega
      have cn := hI.out.nxt.cell hv5
      have HN2 : Hid (BeI w g A B Z b n cap' w.heap.size n0 n1 n2 n3 n4 (put (alB (nx n0 n1 n2 n3 n4) f j) j (nx n0 n1 n2 n3 n4 v)) (wr.drew.setCell ⟨b, j, none⟩ (.int .u8 (nx n0 n1 n2 n3 n4 v)))) := Lib.hid (hI.out.drew.store j (nx n0 n1 n2 n3 n4 v))
      have HQ : Hid (alB (nx n0 n1 n2 n3 n4) f (j + 1) = put (alB (nx n0 n1 n2 n3 n4) f j) j (nx n0 n1 n2 n3 n4 v)) := Lib.hid (by rw [← alB_next, hv, Int.toNat_natCast])
      rw [alB_here, hv, Nat.zero_add] at cb
      clear hfj hv hI
      generalize nx n0 n1 n2 n3 n4 v = u at *
      have hv0 : (0 : Int) ≤ (v : Int) := by omega
      have hv6 : (v : Int) < 5 := by omega
      clear hv5
      go_wp2_with fail
      go_region
      go_wp2_with fail
      go_roundw
      case rel => exact ⟨j + 1, by omega, by go_num, by rw [HQ.out]; exact HN2⟩
      case measure => simp [intOf]; omega
    · obtain rfl : j = n := by omega
      go_wp2_with fail
      go_end0
      exact ⟨⟨_, rfl⟩, (hI.out.turn (alB_bd HN0.out HF.out) hnr).congr fun i hi => alB_all hi⟩
end Sp
end Go.Proofs.Ytdbmdocmnhgbpaa
