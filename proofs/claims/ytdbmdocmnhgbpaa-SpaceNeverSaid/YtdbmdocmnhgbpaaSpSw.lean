/- space: Sweep, Settle, of the code and of the reference. -/
import Derived.Test.YtdbmdocmnhgbpaaSpBe
namespace Go.Proofs.Ytdbmdocmnhgbpaa
set_option maxRecDepth 20000
namespace Sp
open Go.RowKit Dk Eqb Byt

theorem Turn.same {w w' : World} {g n cap : Nat} {A B Z : Int} {ao : Option Addr} {f : Nat → Int} (hx : Bs w g A B Z ao n cap) (hs : St w w.heap.size ao n cap f) (hb : Below w.heap.size w w') : Turn w g A B Z n f w' :=
  ⟨⟨ao, cap, hx.below hb hx.lt, hs.later hb⟩, only_below (World.grownBy.refl _ _) hb, fun _ _ cap' hb' hg => .inr ⟨cap', hb'.block (hb.block g hg).symm⟩⟩
theorem Turn.after {w w1 w' : World} {g n : Nat} {A B Z : Int} {f : Nat → Int} (hb : Below w.heap.size w w1) (h : Turn w1 g A B Z n f w') : Turn w g A B Z n f w' :=
  ⟨h.sp, ⟨h.only.os.trans hb.os, h.only.tape.trans hb.tape, h.only.output.trans hb.output, Nat.le_trans hb.size h.only.size, fun k hk hr => (h.only.block k (Nat.lt_of_lt_of_le hk hb.size) hr).trans (hb.block k hk)⟩, fun b off cap hb' hg => by
    rcases h.loc b off cap hb' (Nat.lt_of_lt_of_le hg hb.size) with h1 | ⟨cap', h1⟩
    · exact .inl (Nat.le_trans hb.size h1)
    · exact .inr ⟨cap', h1.block (hb.block g hg).symm⟩⟩
theorem Turn.drop {w w1 w' : World} {g n : Nat} {A B Z : Int} {f : Nat → Int} (h : Turn w g A B Z n f w1) (hb : Below w1.heap.size w1 w') : Turn w g A B Z n f w' := by
  obtain ⟨⟨ao, cap, h1, h2⟩, h3, h4⟩ := h
  exact ⟨⟨ao, cap, h1.below hb h1.lt, h2.later hb⟩, only_below h3 hb, fun b off cap' hb' hg => h4 b off cap' (hb'.block (hb.block g h1.lt).symm) hg⟩
theorem bd_of {A B Z : Int} {n : Nat} {f : Nat → Int} (h : formB A B Z n f = true) (hf : ∀ i, i < n → 0 ≤ f i ∧ f i < 256) : ∀ i, i < n → 0 ≤ f i ∧ f i ≤ 4 := fun i hi => ⟨(hf i hi).1, le_of h i hi⟩
theorem pos_of {A B Z : Int} {n : Nat} {f : Nat → Int} (h : formB A B Z n f = true) : 0 < n := by have := n_of h; have := (ap_of h).z1; omega
def okE (b : Bool) : Int := if b then 0 else 1
/-- all states, turned, where the space is formed -/
def swF (N : Nat → Int) (A B Z : Int) (n : Nat) (f : Nat → Int) : Nat → Int := if formB A B Z n f then alT N f else f
def swN : Nat → Int := nx 0 1 2 3 0
def seN : Nat → Int := nx 0 1 1 0 0
theorem nx_bd {a b c d e : Int} (h : (0 ≤ a ∧ a ≤ 4) ∧ (0 ≤ b ∧ b ≤ 4) ∧ (0 ≤ c ∧ c ≤ 4) ∧ (0 ≤ d ∧ d ≤ 4) ∧ 0 ≤ e ∧ e ≤ 4) : ∀ k, k < 5 → 0 ≤ nx a b c d e k ∧ nx a b c d e k ≤ 4 := by
  intro k hk
  match k, hk with
  | 0, _ => exact h.1
  | 1, _ => exact h.2.1
  | 2, _ => exact h.2.2.1
  | 3, _ => exact h.2.2.2.1
  | 4, _ => exact h.2.2.2.2

set_option maxHeartbeats 1000000 in
theorem Sweep_any (g : Nat) (A B Z : Int) (ao : Option Addr) (n cap : Nat) (f : Nat → Int) (w : World) (hx : Bs w g A B Z ao n cap) (hB : i64 B) (hs : St w w.heap.size ao n cap f) :
    Calls Try.prog 28 #[.pointer (some ⟨g, 0, none⟩)] w fun e w' => e = .returned (.int .i64 (okE (formB A B Z n f))) ∧ Turn w g A B Z n (swF swN A B Z n f) w' := by
  have HF := Lib.hid (formed_any g A B Z ao n cap f w hx hB hs)
  unfold okE swF
  cases hp : formB A B Z n f with
  | false =>
    rw [hp] at HF
    clear hp
    go_enter Try.func28, Try.ntmps28
    go_wp2_with fail
    refine HF.out.mono ?_
    rintro _ w1 ⟨rfl, hb1⟩
    dsimp only
    go_wp2_with fail
    go_ret
    exact ⟨rfl, Turn.same hx hs hb1⟩
  | true =>
    rw [hp] at HF
    have HA := Lib.hid (fun (w1 : World) (hb : Below w.heap.size w w1) => allBecome_any g A B Z ao n cap f 0 1 2 3 0 w1 (hx.below hb hx.lt) (hs.later hb) (pos_of hp) (bd_of hp hs.byte) (nx_bd (by omega)))
    clear hp
    go_enter Try.func28, Try.ntmps28
    go_wp2_with fail
    refine HF.out.mono ?_
    rintro _ w1 ⟨rfl, hb1⟩
    dsimp only
    go_wp2_with fail
    refine (HA.out w1 hb1).mono ?_
    rintro _ w2 ⟨⟨v, rfl⟩, hT⟩
    dsimp only
    go_wp2_with fail
    go_ret
    exact ⟨rfl, hT.after hb1⟩

set_option maxHeartbeats 1000000 in
theorem Settle_any (g : Nat) (A B Z : Int) (ao : Option Addr) (n cap : Nat) (f : Nat → Int) (w : World) (hx : Bs w g A B Z ao n cap) (hB : i64 B) (hs : St w w.heap.size ao n cap f) :
    Calls Try.prog 30 #[.pointer (some ⟨g, 0, none⟩)] w fun e w' => e = .returned (.int .i64 (okE (formB A B Z n f))) ∧ Turn w g A B Z n (swF seN A B Z n f) w' := by
  have HF := Lib.hid (formed_any g A B Z ao n cap f w hx hB hs)
  unfold okE swF
  cases hp : formB A B Z n f with
  | false =>
    rw [hp] at HF
    clear hp
    go_enter Try.func30, Try.ntmps30
    go_wp2_with fail
    refine HF.out.mono ?_
    rintro _ w1 ⟨rfl, hb1⟩
    dsimp only
    go_wp2_with fail
    go_ret
    exact ⟨rfl, Turn.same hx hs hb1⟩
  | true =>
    rw [hp] at HF
    have HA := Lib.hid (fun (w1 : World) (hb : Below w.heap.size w w1) => allBecome_any g A B Z ao n cap f 0 1 1 0 0 w1 (hx.below hb hx.lt) (hs.later hb) (pos_of hp) (bd_of hp hs.byte) (nx_bd (by omega)))
    clear hp
    go_enter Try.func30, Try.ntmps30
    go_wp2_with fail
    refine HF.out.mono ?_
    rintro _ w1 ⟨rfl, hb1⟩
    dsimp only
    go_wp2_with fail
    refine (HA.out w1 hb1).mono ?_
    rintro _ w2 ⟨⟨v, rfl⟩, hT⟩
    dsimp only
    go_wp2_with fail
    go_ret
    exact ⟨rfl, hT.after hb1⟩

/-- the reference's copy of the states -/
theorem copyb_any (ao : Option Addr) (n cap : Nat) (f : Nat → Int) (w : World) (hs : St w w.heap.size ao n cap f) (h1 : 0 < n) :
    Calls Try.prog 34 #[.slice ao n cap] w fun e w' => ∃ b cap', e = .returned (.slice (some ⟨b, 0, none⟩) n cap') ∧ w.heap.size ≤ b ∧ n ≤ cap' ∧ Row w' b 0 n f ∧ Below w.heap.size w w' := by
  have HE : (tab n f).length = n := by simp [tab]
  have h := copy_any ao cap (tab n f) w hs.lies (by rw [HE]; exact hs.room)
  rw [HE] at h
  refine h.mono ?_
  rintro e w' ⟨v, rfl, hown, hb⟩
  rcases row_own HE.symm hown with ⟨_, h0⟩ | ⟨g, cap', rfl, hgb, hc, _, hrow⟩
  · omega
  · exact ⟨g, cap', rfl, hgb, hc, hrow.congr fun j hj => tab_getD n f hj, hb⟩
/-- in a loop of the reference that turns the states -/
structure RfI (w : World) (g : Nat) (A B Z : Int) (b n cap : Nat) (F : Nat → Int) (wr : World) : Prop where
  sp : Bs wr g A B Z (some ⟨b, 0, none⟩) n cap
  row : Row wr b 0 n F
  only : w.grownBy wr (some g)
  new : w.heap.size ≤ b
  ne : b ≠ g
  room : n ≤ cap
theorem RfI.turn {w wr : World} {g b n cap : Nat} {A B Z : Int} {F : Nat → Int} (h : RfI w g A B Z b n cap F wr) (hF : ∀ i, i < n → 0 ≤ F i ∧ F i ≤ 4) (hn : n ≤ 140737488355328) : Turn w g A B Z n F wr :=
  ⟨⟨_, _, h.sp, h.row.lies h.row.lt h.room, fun i hi => by have := hF i hi; omega, hn⟩, h.only, fun b' off' _ hb' _ => .inl (by
    have := h.sp.same hb'
    injection this with this
    injection this with this
    have := h.new
    omega)⟩
theorem RfI.store {w wr : World} {g b n cap : Nat} {A B Z : Int} {F : Nat → Int} (h : RfI w g A B Z b n cap F wr) (j : Nat) (z : Int) : RfI w g A B Z b n cap (put F j z) (wr.setCell ⟨b, j, none⟩ (.int .u8 z)) :=
  ⟨h.sp.block (heap_setCell_other _ _ _ _ (Ne.symm h.ne)), by have := h.row.store j z; rwa [Nat.zero_add] at this, only_new h.only h.new j _, h.new, h.ne, h.room⟩
theorem RfI.later {w wr w' : World} {g b n cap : Nat} {A B Z : Int} {F : Nat → Int} (h : RfI w g A B Z b n cap F wr) (hb : Below wr.heap.size wr w') : RfI w g A B Z b n cap F w' :=
  ⟨h.sp.below hb h.sp.lt, h.row.block (hb.block _ h.row.lt), only_below h.only hb, h.new, h.ne, h.room⟩
theorem rf_start {w w1 w2 : World} {g b n cap cap' : Nat} {A B Z : Int} {ao : Option Addr} {f : Nat → Int} (hx : Bs w g A B Z ao n cap) (hb1 : Below w.heap.size w w1) (hb2 : Below w1.heap.size w1 w2) (hb : w1.heap.size ≤ b) (hc : n ≤ cap') (hrow : Row w2 b 0 n f) :
    RfI w g A B Z b n cap' f (w2.setCell ⟨g, 3, none⟩ (.slice (some ⟨b, 0, none⟩) n cap')) := by
  have hgl := hx.lt
  have hs1 := hb1.size
  have hB := hb1.trans (hb2.mono hs1)
  exact ⟨(hx.below hB hgl).s3 _ _ _, hrow.block (heap_setCell_other _ _ _ _ (show b ≠ g by omega)), only_store (only_below (World.grownBy.refl _ _) hB) 3 _, by omega, by omega, hc⟩
theorem alB_stay {N : Nat → Int} {f : Nat → Int} {k : Nat} (h : N (f k).toNat = f k) : alB N f (k + 1) = alB N f k := by
  rw [← alB_next, h]
  funext i
  unfold put
  by_cases e : i = k
  · subst e; rw [if_pos rfl, alB_here]
  · rw [if_neg e]
theorem sw_bd : ∀ k, k < 5 → 0 ≤ swN k ∧ swN k ≤ 4 := nx_bd (by omega)
theorem se_bd : ∀ k, k < 5 → 0 ≤ seN k ∧ seN k ≤ 4 := nx_bd (by omega)

set_option maxRecDepth 100000 in
set_option maxHeartbeats 4000000 in
theorem refSweep_any (g : Nat) (A B Z : Int) (ao : Option Addr) (n cap : Nat) (f : Nat → Int) (w : World) (hx : Bs w g A B Z ao n cap) (hs : St w w.heap.size ao n cap f) :
    Calls Try.prog 29 #[.pointer (some ⟨g, 0, none⟩)] w fun e w' => e = .returned (.int .i64 (okE (formB A B Z n f))) ∧ Turn w g A B Z n (swF swN A B Z n f) w' := by
  have HF := Lib.hid (refFormed_any A B Z ao n cap f w hs.room hs.lies)
  have k0 := hx.c0
  have k1 := hx.c1
  have k2 := hx.c2
  have k3 := hx.c3
  unfold okE swF
  cases hp : formB A B Z n f with
  | false =>
    rw [hp] at HF
    clear hp
    go_enter Try.func29, Try.ntmps29
    go_wp2_with fail
    refine HF.out.mono ?_
    rintro _ w1 ⟨rfl, hb1⟩
    dsimp only
    go_wp2_with fail
    go_ret
    exact ⟨rfl, Turn.same hx hs hb1⟩
  | true =>
    rw [hp] at HF
    have HC := Lib.hid (fun (w1 : World) (hb : Below w.heap.size w w1) => copyb_any ao n cap f w1 (hs.later hb) (pos_of hp))
    have HB := Lib.hid (bd_of hp hs.byte)
    have hnr := hs.room
    clear hp hs
    go_enter Try.func29, Try.ntmps29
    go_wp2_with fail
    refine HF.out.mono ?_
    rintro _ w1 ⟨rfl, hb1⟩
    dsimp only
    have m3 := (hx.below hb1 hx.lt).c3
    go_wp2_with fail
    refine (HC.out w1 hb1).mono ?_
    rintro _ w2 ⟨b, cap', rfl, hb, hc, hrow, hb2⟩
    dsimp only
    have HI : Hid (RfI w g A B Z b n cap' (alB swN f 0) (w2.setCell ⟨g, 3, none⟩ (.slice (some ⟨b, 0, none⟩) n cap'))) := Lib.hid (rf_start hx hb1 hb2 hb hc (hrow.congr fun j _ => (alB_zero _ f j).symm))
    have y2 := (hx.below hb1 hx.lt).below hb2 (by have := hx.lt; have := hb1.size; omega)
    have m3' := y2.c3
    have mf := y2.fr 3
    clear hb1 hb2 hrow m3 k0 k1 k2 k3
    go_wp2_with fail
    generalize w2.setCell ⟨g, 3, none⟩ (.slice (some ⟨b, 0, none⟩) n cap') = w3 at HI ⊢
    clear m3' mf y2 hx
    go_loopw [3] (fun i wr => ∃ j : Nat, j ≤ n ∧ i = .int .i64 j ∧ Hid (RfI w g A B Z b n cap' (alB swN f j) wr)) (fun i _ => n - (intOf i).toNat)
    case atStart => exact ⟨0, by omega, rfl, HI⟩
    case round =>
      clear HI
      obtain ⟨j, hj, rfl, hI⟩ := hrel
      have c3 := hI.out.sp.c3
      by_cases hlt : j < n
      · have hj0 : (0 : Int) ≤ (j : Int) := by omega
        have hjm : (j : Int) < (n : Int) := by omega
        have cb := hI.out.row.cell hlt
        have cf := hI.out.row.free j
        have hfj := HB.out j hlt
        rw [alB_here, Nat.zero_add] at cb
        obtain hv | hv | hv | hv | hv : f j = 0 ∨ f j = 1 ∨ f j = 2 ∨ f j = 3 ∨ f j = 4 := by omega
        · have cb' : wr.cell? ⟨b, j, none⟩ = some (.int .u8 0) := by rw [cb, hv]
          have HN : Hid (RfI w g A B Z b n cap' (alB swN f (j + 1)) wr) := Lib.hid (by rw [alB_stay (by rw [hv]; rfl)]; exact hI.out)
          clear cb hv hI hfj
          go_wp2_with fail
          go_roundw
          case rel => exact ⟨j + 1, by omega, by go_num, HN⟩
          case measure => simp [intOf]; omega
        · have cb' : wr.cell? ⟨b, j, none⟩ = some (.int .u8 1) := by rw [cb, hv]
          have HN : Hid (RfI w g A B Z b n cap' (alB swN f (j + 1)) wr) := Lib.hid (by rw [alB_stay (by rw [hv]; rfl)]; exact hI.out)
          clear cb hv hI hfj
          go_wp2_with fail
          go_roundw
          case rel => exact ⟨j + 1, by omega, by go_num, HN⟩
          case measure => simp [intOf]; omega
        · have cb' : wr.cell? ⟨b, j, none⟩ = some (.int .u8 2) := by rw [cb, hv]
          have HN : Hid (RfI w g A B Z b n cap' (alB swN f (j + 1)) wr) := Lib.hid (by rw [alB_stay (by rw [hv]; rfl)]; exact hI.out)
          clear cb hv hI hfj
          go_wp2_with fail
          go_roundw
          case rel => exact ⟨j + 1, by omega, by go_num, HN⟩
          case measure => simp [intOf]; omega
        · have cb' : wr.cell? ⟨b, j, none⟩ = some (.int .u8 3) := by rw [cb, hv]
          have HN : Hid (RfI w g A B Z b n cap' (alB swN f (j + 1)) wr) := Lib.hid (by rw [alB_stay (by rw [hv]; rfl)]; exact hI.out)
          clear cb hv hI hfj
          go_wp2_with fail
          go_roundw
          case rel => exact ⟨j + 1, by omega, by go_num, HN⟩
          case measure => simp [intOf]; omega
        · have cb' : wr.cell? ⟨b, j, none⟩ = some (.int .u8 4) := by rw [cb, hv]
          have HN : Hid (RfI w g A B Z b n cap' (alB swN f (j + 1)) (wr.setCell ⟨b, j, none⟩ (.int .u8 0))) := Lib.hid (by have h := hI.out.store j 0; rwa [show (0 : Int) = swN (f j).toNat by rw [hv]; rfl, alB_next, show swN (f j).toNat = 0 by rw [hv]; rfl] at h)
          clear cb hv hI hfj
          go_wp2_with fail
          go_roundw
          case rel => exact ⟨j + 1, by omega, by go_num, HN⟩
          case measure => simp [intOf]; omega
      · obtain rfl : j = n := by omega
        go_wp2_with fail
        go_ret
        exact ⟨rfl, (hI.out.turn (alB_bd sw_bd HB.out) hnr).congr fun i hi => alB_all hi⟩

set_option maxRecDepth 100000 in
set_option maxHeartbeats 4000000 in
theorem refSettle_any (g : Nat) (A B Z : Int) (ao : Option Addr) (n cap : Nat) (f : Nat → Int) (w : World) (hx : Bs w g A B Z ao n cap) (hs : St w w.heap.size ao n cap f) :
    Calls Try.prog 31 #[.pointer (some ⟨g, 0, none⟩)] w fun e w' => e = .returned (.int .i64 (okE (formB A B Z n f))) ∧ Turn w g A B Z n (swF seN A B Z n f) w' := by
  have HF := Lib.hid (refFormed_any A B Z ao n cap f w hs.room hs.lies)
  have k0 := hx.c0
  have k1 := hx.c1
  have k2 := hx.c2
  have k3 := hx.c3
  unfold okE swF
  cases hp : formB A B Z n f with
  | false =>
    rw [hp] at HF
    clear hp
    go_enter Try.func31, Try.ntmps31
    go_wp2_with fail
    refine HF.out.mono ?_
    rintro _ w1 ⟨rfl, hb1⟩
    dsimp only
    go_wp2_with fail
    go_ret
    exact ⟨rfl, Turn.same hx hs hb1⟩
  | true =>
    rw [hp] at HF
    have HC := Lib.hid (fun (w1 : World) (hb : Below w.heap.size w w1) => copyb_any ao n cap f w1 (hs.later hb) (pos_of hp))
    have HB := Lib.hid (bd_of hp hs.byte)
    have hnr := hs.room
    clear hp hs
    go_enter Try.func31, Try.ntmps31
    go_wp2_with fail
    refine HF.out.mono ?_
    rintro _ w1 ⟨rfl, hb1⟩
    dsimp only
    have m3 := (hx.below hb1 hx.lt).c3
    go_wp2_with fail
    refine (HC.out w1 hb1).mono ?_
    rintro _ w2 ⟨b, cap', rfl, hb, hc, hrow, hb2⟩
    dsimp only
    have HI : Hid (RfI w g A B Z b n cap' (alB seN f 0) (w2.setCell ⟨g, 3, none⟩ (.slice (some ⟨b, 0, none⟩) n cap'))) := Lib.hid (rf_start hx hb1 hb2 hb hc (hrow.congr fun j _ => (alB_zero _ f j).symm))
    have y2 := (hx.below hb1 hx.lt).below hb2 (by have := hx.lt; have := hb1.size; omega)
    have m3' := y2.c3
    have mf := y2.fr 3
    clear hb1 hb2 hrow m3 k0 k1 k2 k3
    go_wp2_with fail
    generalize w2.setCell ⟨g, 3, none⟩ (.slice (some ⟨b, 0, none⟩) n cap') = w3 at HI ⊢
    clear m3' mf y2 hx
    go_loopw [3] (fun i wr => ∃ j : Nat, j ≤ n ∧ i = .int .i64 j ∧ Hid (RfI w g A B Z b n cap' (alB seN f j) wr)) (fun i _ => n - (intOf i).toNat)
    case atStart => exact ⟨0, by omega, rfl, HI⟩
    case round =>
      clear HI
      obtain ⟨j, hj, rfl, hI⟩ := hrel
      have c3 := hI.out.sp.c3
      by_cases hlt : j < n
      · have hj0 : (0 : Int) ≤ (j : Int) := by omega
        have hjm : (j : Int) < (n : Int) := by omega
        have cb := hI.out.row.cell hlt
        have cf := hI.out.row.free j
        have hfj := HB.out j hlt
        rw [alB_here, Nat.zero_add] at cb
        obtain hv | hv | hv | hv | hv : f j = 0 ∨ f j = 1 ∨ f j = 2 ∨ f j = 3 ∨ f j = 4 := by omega
        · have cb' : wr.cell? ⟨b, j, none⟩ = some (.int .u8 0) := by rw [cb, hv]
          have HN : Hid (RfI w g A B Z b n cap' (alB seN f (j + 1)) wr) := Lib.hid (by rw [alB_stay (by rw [hv]; rfl)]; exact hI.out)
          clear cb hv hI hfj
          go_wp2_with fail
          go_roundw
          case rel => exact ⟨j + 1, by omega, by go_num, HN⟩
          case measure => simp [intOf]; omega
        · have cb' : wr.cell? ⟨b, j, none⟩ = some (.int .u8 1) := by rw [cb, hv]
          have HN : Hid (RfI w g A B Z b n cap' (alB seN f (j + 1)) wr) := Lib.hid (by rw [alB_stay (by rw [hv]; rfl)]; exact hI.out)
          clear cb hv hI hfj
          go_wp2_with fail
          go_roundw
          case rel => exact ⟨j + 1, by omega, by go_num, HN⟩
          case measure => simp [intOf]; omega
        · have cb' : wr.cell? ⟨b, j, none⟩ = some (.int .u8 2) := by rw [cb, hv]
          have HN : Hid (RfI w g A B Z b n cap' (alB seN f (j + 1)) (wr.setCell ⟨b, j, none⟩ (.int .u8 1))) := Lib.hid (by have h := hI.out.store j 1; rwa [show (1 : Int) = seN (f j).toNat by rw [hv]; rfl, alB_next, show seN (f j).toNat = 1 by rw [hv]; rfl] at h)
          clear cb hv hI hfj
          go_wp2_with fail
          go_roundw
          case rel => exact ⟨j + 1, by omega, by go_num, HN⟩
          case measure => simp [intOf]; omega
        · have cb' : wr.cell? ⟨b, j, none⟩ = some (.int .u8 3) := by rw [cb, hv]
          have HN : Hid (RfI w g A B Z b n cap' (alB seN f (j + 1)) (wr.setCell ⟨b, j, none⟩ (.int .u8 0))) := Lib.hid (by have h := hI.out.store j 0; rwa [show (0 : Int) = seN (f j).toNat by rw [hv]; rfl, alB_next, show seN (f j).toNat = 0 by rw [hv]; rfl] at h)
          clear cb hv hI hfj
          go_wp2_with fail
          go_roundw
          case rel => exact ⟨j + 1, by omega, by go_num, HN⟩
          case measure => simp [intOf]; omega
        · have cb' : wr.cell? ⟨b, j, none⟩ = some (.int .u8 4) := by rw [cb, hv]
          have HN : Hid (RfI w g A B Z b n cap' (alB seN f (j + 1)) (wr.setCell ⟨b, j, none⟩ (.int .u8 0))) := Lib.hid (by have h := hI.out.store j 0; rwa [show (0 : Int) = seN (f j).toNat by rw [hv]; rfl, alB_next, show seN (f j).toNat = 0 by rw [hv]; rfl] at h)
          clear cb hv hI hfj
          go_wp2_with fail
          go_roundw
          case rel => exact ⟨j + 1, by omega, by go_num, HN⟩
          case measure => simp [intOf]; omega
      · obtain rfl : j = n := by omega
        go_wp2_with fail
        go_ret
        exact ⟨rfl, (hI.out.turn (alB_bd se_bd HB.out) hnr).congr fun i hi => alB_all hi⟩
end Sp
end Go.Proofs.Ytdbmdocmnhgbpaa
