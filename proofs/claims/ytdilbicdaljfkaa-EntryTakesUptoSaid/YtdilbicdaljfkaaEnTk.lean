/- Take, of the code. -/
import Derived.Test.YtdilbicdaljfkaaEnK
namespace Go.Proofs.Ytdilbicdaljfkaa
set_option maxRecDepth 20000
namespace En
open Go.RowKit Sha

theorem left_next {b r : List Int} {l : List E} (h : Left b l r) (hn : fsN r ≠ 0) : Left b (l ++ [fsV r]) (r.drop (fsN r)) ∧ fsN r ≤ r.length ∧ 0 < fsN r := by
  match r, hn, h with
  | [], hn, _ => exact absurd rfl hn
  | [_], hn, _ => exact absurd rfl hn
  | n :: k :: r, hn, h =>
    by_cases hk : k.toNat ≤ r.length
    · have e1 : fsV (n :: k :: r) = (txt (r.take k.toNat), n) := by simp [fsV, hk]
      have e2 : fsN (n :: k :: r) = k.toNat + 2 := by simp [fsN, hk]
      rw [e1, e2]
      exact ⟨h.next hk, by simp; omega, by omega⟩
    · exact absurd (by simp [fsN, hk]) hn
theorem left_bad {b r : List Int} {l : List E} (h : Left b l r) (h0 : r ≠ []) (hn : fsN r = 0) : tE b = 15 ∧ tV b = [] := by
  match r, h0, hn, h with
  | [], h0, _, _ => exact absurd rfl h0
  | [_], _, _, h => exact h.one
  | n :: k :: r, _, hn, h =>
    by_cases hk : k.toNat ≤ r.length
    · simp [fsN, hk] at hn
    · exact h.short hk
theorem fsV_len (r : List Int) : (fsV r).1.length ≤ r.length := by
  match r with
  | [] => exact Nat.le_refl _
  | [_] => exact Nat.zero_le _
  | n :: k :: r =>
    by_cases hk : k.toNat ≤ r.length
    · simp [fsV, hk, txt]; omega
    · simp [fsV, hk]
theorem lies_dropB {w : World} {B b off cap n : Nat} {r : List Int} (h : Lies w B (some ⟨b, off, none⟩) cap r) : Lies w B (some ⟨b, off + n, none⟩) (cap - n) (r.drop n) := by
  have hr := h.room
  refine ⟨by rw [List.length_drop]; omega, (fun e => by cases e), fun hne => ?_⟩
  obtain ⟨b', off', e, hb, hc⟩ := h.cells (by rintro rfl; simp at hne)
  injection e with e
  injection e with e1 e2
  subst e1 e2
  refine ⟨b, off + n, rfl, hb, fun i hi => ?_⟩
  rw [List.length_drop] at hi
  rw [show off + n + i = off + (n + i) by omega, hc (n + i) (by omega)]
  rw [List.getD_eq_getElem?_getD, List.getD_eq_getElem?_getD, List.getElem?_drop]
theorem lies_dropB0 {w : World} {B cap n : Nat} {ad : Addr} {r : List Int} (h : Lies w B (some ad) cap r) (hc : cap = n) : Lies w B (some ad) 0 (r.drop n) := by
  have hr := h.room
  have e : r.drop n = [] := List.eq_nil_of_length_eq_zero (by rw [List.length_drop]; omega)
  rw [e]
  exact ⟨Nat.zero_le _, (fun e => by cases e), fun h => absurd rfl h⟩
theorem step_appE {w : World} {ops : Array Oper} {o : Oper} {a : Act} {K : Act → World → Prop} {Q : Exit → Act → World → Prop} {X : Prop} (hgd : o.guard = none) (s x : Operand)
    (ho : o.op = .call { callee := .builtin .append, args := #[s, x], argTypes := #[22, 22] }) (base : Nat) (v : Value) (l m : List E) (hs : a.eval s = v) (hown : OwnE w base v l)
    (B : Nat) (ao : Option Addr) (n c : Nat) (hn : n = m.length) (hx : a.eval x = .slice ao n c) (hl : LiesE w B ao c m) (hlen : (l.length + m.length) * 24 ≤ 140737488355328) (hbase : base ≤ w.heap.size)
    (h : ∀ v' w', OwnE w' base v' (l ++ m) → Below base w w' → w.grownBy w' v.ownBlock → K (a.put o.dst v') w') : if Region.wanted o (yielded ops a.tmps) = true then Oper.wp Try.prog o a w K Q else X := by
  have hw : Region.wanted o (yielded ops a.tmps) = true := by simp [Region.wanted, hgd]
  rw [if_pos hw]
  subst hn
  obtain ⟨v', w', hr, h2, h3, h4⟩ := run_appE o.type hown B ao c hl hlen hbase
  unfold Oper.wp execOp
  simp only [ho, resolve, invoke, builtin, Sem.run_bind, Sem.run_pure, Result.andThen_ok, List.map_toArray, List.map_cons, List.map_nil, hs, hx, hr]
  exact h v' w' h2 h3 h4

set_option maxHeartbeats 8000000 in
theorem take_any (xs : List Int) (ao : Option Addr) (cap : Nat) (w : World) (h : Lies w w.heap.size ao cap xs) (hB : Byte xs) (hn : xs.length ≤ 140737488355328) :
    Calls Try.prog 17 #[.slice ao xs.length cap] w fun e w' => ∃ v, e = .returned (.tuple #[v, .int .i64 (tE xs)]) ∧ OwnE w' w.heap.size v (tV xs) ∧ Below w.heap.size w w' := by
  have HST := Lib.hid (Left.start xs)
  have HDN := Lib.hid (fun l (hl : Left xs l []) => hl.done)
  have HMN := Lib.hid (fun l r (hl : Left xs l r) (h : 40 < l.length) => hl.many h)
  have HBD := Lib.hid (fun l r (hl : Left xs l r) (h0 : r ≠ []) (h : fsN r = 0) => left_bad hl h0 h)
  have HNX := Lib.hid (fun l r (hl : Left xs l r) (h : fsN r ≠ 0) => left_next hl h)
  generalize tE xs = c at HDN HMN HBD ⊢
  generalize tV xs = V at HDN HMN HBD ⊢
  go_enter Try.func17, Try.ntmps17
  go_wp2
  go_loopw [4, 5] (fun v s wr => ∃ (l : List E) (r : List Int) (bo : Option Addr) (c2 : Nat), l.length ≤ 41 ∧ r.length ≤ xs.length ∧ s = .slice bo r.length c2 ∧ Hid (Left xs l r ∧ OwnE wr w.heap.size v l ∧ Lies w w.heap.size bo c2 r ∧ Byte r) ∧ Below w.heap.size w wr) (fun _ s _ => match s with | .slice _ n _ => n | _ => 0)
  case atStart => exact ⟨[], xs, ao, cap, by simp, Nat.le_refl _, rfl, Lib.hid ⟨HST.out, OwnE.nil _ _, h, hB⟩, Below.refl _ _⟩
  case round =>
    obtain ⟨l, r, bo, c2, hl41, hrx, rfl, HI, hb⟩ := hrel
    have hbs := hb.size
    obtain ⟨hleft, hO, hL, hBr⟩ := HI.out
    obtain ⟨lo, lc, rfl, hlE, hlo⟩ := hO.slice
    clear HI h hB HST
    by_cases hr0 : r = []
    · subst hr0
      obtain ⟨hd1, hd2⟩ := HDN.out l hleft
      have HRI := Lib.hid (right_any l lo lc wr hlE)
      have HOW := Lib.hid (fun W (hb2 : Below wr.heap.size wr W) => hO.below hb2 (Nat.le_refl _))
      clear HDN HMN HBD HNX hleft hO hL hBr hlE hlo
      by_cases hrt : rt l = true
      · obtain ⟨rfl, rfl⟩ := hd1 hrt
        rw [hrt] at HRI
        clear hd1 hd2 hrt
        go_wp2_with (go_at_call 11; refine HRI.out.mono ?_; rintro _ W1 ⟨rfl, hb1⟩)
        refine bodyPost_ret (results_2 rfl rfl rfl) rfl ?_
        exact ⟨_, rfl, HOW.out _ hb1, hb.trans (hb1.mono hbs)⟩
      · have hrt' : rt l = false := by simpa using hrt
        obtain ⟨rfl, rfl⟩ := hd2 hrt'
        rw [hrt'] at HRI
        clear hd1 hd2 hrt hrt'
        go_wp2_with (go_at_call 11; refine HRI.out.mono ?_; rintro _ W1 ⟨rfl, hb1⟩)
        refine bodyPost_ret (results_2 rfl rfl rfl) rfl ?_
        exact ⟨_, rfl, OwnE.nil _ _, hb.trans (hb1.mono hbs)⟩
    · have hrp : 0 < r.length := List.length_pos_iff.2 hr0
      have hg1 : decide ((0 : Int) < (r.length : Int)) = true := by simp; omega
      by_cases h41 : l.length = 41
      · obtain ⟨rfl, rfl⟩ := HMN.out l r hleft (by omega)
        have HRI := Lib.hid (right_any l lo lc wr hlE)
        have hrt' : rt l = false := by simp [rt, h41]
        rw [hrt'] at HRI
        have hg2 : decide (((l.length : Nat) : Int) ≤ 40) = false := by simp; omega
        clear HDN HMN HBD HNX hleft hO hL hBr hlE hlo hrt' h41 hr0
        go_wp2_with (go_at_call 11; refine HRI.out.mono ?_; rintro _ W1 ⟨rfl, hb1⟩)
        refine bodyPost_ret (results_2 rfl rfl rfl) rfl ?_
        exact ⟨_, rfl, OwnE.nil _ _, hb.trans (hb1.mono hbs)⟩
      · have hg2 : decide (((l.length : Nat) : Int) ≤ 40) = true := by simp; omega
        have HFI := Lib.hid (first_any r bo c2 wr ((hL.below hb).more hbs) hBr (by omega))
        by_cases hN : fsN r = 0
        · obtain ⟨rfl, rfl⟩ := HBD.out l r hleft hr0 hN
          rw [hN] at HFI
          clear HDN HMN HBD HNX hleft hO hL hBr hlE hlo h41 hr0 hN
          go_wp2_with (go_at_call 31; refine HFI.out.mono ?_; rintro _ W1 ⟨rfl, hb1⟩)
          refine bodyPost_ret (results_2 rfl rfl rfl) rfl ?_
          exact ⟨_, rfl, OwnE.nil _ _, (hb.trans (hb1.mono hbs)).alloc (by have := hb1.size; omega) _⟩
        · obtain ⟨hl2, hN2, hN3⟩ := HNX.out l r hleft hN
          obtain ⟨b, off, rfl, hbb, _⟩ := hL.cells hr0
          have hxl := fsV_len r
          have HBY : Hid (Byte (r.drop (fsN r))) := Lib.hid fun z hz => hBr z (List.mem_of_mem_drop hz)
          have HLF := Lib.hid hl2
          have hLD := fun (hc : ¬ c2 = fsN r) => lies_dropB (n := fsN r) hL
          have hLD0 := fun (hc : c2 = fsN r) => lies_dropB0 (n := fsN r) hL hc
          have hrm := hL.room
          clear HDN HMN HBD HNX hleft hL hBr hlE hlo hl2
          generalize fsN r = N at HFI hN hN2 hN3 HBY HLF hLD hLD0
          generalize fsV r = x at HFI HLF hxl
          obtain ⟨x, n⟩ := x
          simp only at HFI hxl
          have hN4 : ((N : Int) == 0) = false := by simp; omega
          have hN5 : (N : Int) ≤ (r.length : Int) := by omega
          have hN6 : (N : Int) ≤ (c2 : Int) := by omega
          have hl40 : l.length ≤ 40 := by omega
          clear hN h41 hr0
          by_cases hc : c2 = N
          · have HLD := Lib.hid (hLD0 hc)
            clear hLD hLD0
            subst hc
            go_wp2_with (go_at_call 31; refine HFI.out.mono ?_; rintro _ W1 ⟨rfl, hb1⟩)
            have hbW := hb.trans (hb1.mono hbs)
            have hws := hbW.size
            have hdr : ∀ W : World, Below W.heap.size W W.drew := fun W => below_drewN (Below.refl _ _) 1
            have hO1 := hO.below hb1 (Nat.le_refl _)
            obtain ⟨big, hbig⟩ : ∃ big, big = ((W1.alloc (.cells #[.string ⟨x.toArray⟩, .int .i64 n] 44)).alloc (.cells #[.string ⟨x.toArray⟩, .int .i64 n] 44)).drew := ⟨_, rfl⟩
            have hsb : big.heap.size = W1.heap.size + 1 + 1 := by rw [hbig]; simp
            have hbA : Below W1.heap.size W1 big := by
              rw [hbig]
              exact (((Below.refl _ _).alloc (Nat.le_refl _) _).alloc (by simp) _).trans ((hdr _).mono (by simp; omega))
            have q0 : big.cell? ⟨W1.heap.size, 0, none⟩ = some (.string ⟨x.toArray⟩) := by
              rw [hbig]
              show (((W1.alloc _).alloc _)).cell? _ = _
              rw [World.cell?_alloc_lt _ _ _ (by simp), cell_of_row _ _ _ _ _ _ (heap_alloc_new W1 _)]
              rfl
            have q1 : big.cell? ⟨W1.heap.size, 1, none⟩ = some (.int .i64 n) := by
              rw [hbig]
              show (((W1.alloc _).alloc _)).cell? _ = _
              rw [World.cell?_alloc_lt _ _ _ (by simp), cell_of_row _ _ _ _ _ _ (heap_alloc_new W1 _)]
              rfl
            have HO2 := Lib.hid (hO1.below hbA (Nat.le_refl _))
            have HL2 : Hid (LiesE big (W1.heap.size + 1 + 1) (some ⟨W1.heap.size + 1, 0, none⟩) 1 [(x, n)]) := Lib.hid (by
              rw [hbig]
              exact (lies_own_new (W1.alloc (.cells #[.string ⟨x.toArray⟩, .int .i64 n] 44)) (x, n) (World.size_alloc _ _)).below ((hdr _).mono (by simp)))
            have KE := Lib.hid (fun (w2 : World) (hg : big.grownBy w2 (Value.ownBlock (.slice lo l.length lc))) => show w2.cell? ⟨W1.heap.size, 0, none⟩ = some (.string ⟨x.toArray⟩) ∧ w2.cell? ⟨W1.heap.size, 1, none⟩ = some (.int .i64 n) from ⟨(far hO1 hg ⟨W1.heap.size, 0, none⟩ (Nat.le_refl W1.heap.size) (by show W1.heap.size < _; omega)).trans q0, (far hO1 hg ⟨W1.heap.size, 1, none⟩ (Nat.le_refl W1.heap.size) (by show W1.heap.size < _; omega)).trans q1⟩)
            have HBB := Lib.hid (hbW.trans (hbA.mono hws))
            have hsw : w.heap.size ≤ big.heap.size := by omega
            rw [hbig] at HO2 HL2 KE HBB hsw
            clear hO hO1 hbA q0 q1 hsb hbig hdr hb1 HFI
            go_region_held3 (fun w' => w'.cell? ⟨W1.heap.size, 0, none⟩ = some (.string ⟨x.toArray⟩) ∧ w'.cell? ⟨W1.heap.size, 1, none⟩ = some (.int .i64 n))
              (first
                | go_keep
                | exact KE.out _ hg2)
              (first
                | (refine step_appE rfl (.tmp 24) (.tmp 26) rfl w.heap.size _ l [(x, n)] rfl (by exact HO2.out) _ _ 1 1 rfl rfl (by exact HL2.out) (by simp only [List.length_cons, List.length_nil]; omega) (by exact hsw) ?_; intro v2 w2 hO2 hb2 hg2))
            go_wp2
            go_roundw
            case rel => exact ⟨l ++ [(x, n)], r.drop c2, some ⟨b, off, none⟩, 0, by simp; omega, by rw [List.length_drop]; omega, by rw [List.length_drop, show r.length - c2 = 0 by omega], Lib.hid ⟨HLF.out, hO2, HLD.out, HBY.out⟩, HBB.out.trans hb2⟩
            case measure => show 0 < r.length; omega
          · have HLD := Lib.hid (hLD hc)
            clear hLD hLD0
            go_wp2_with (go_at_call 31; refine HFI.out.mono ?_; rintro _ W1 ⟨rfl, hb1⟩)
            have hbW := hb.trans (hb1.mono hbs)
            have hws := hbW.size
            have hdr : ∀ W : World, Below W.heap.size W W.drew := fun W => below_drewN (Below.refl _ _) 1
            have hO1 := hO.below hb1 (Nat.le_refl _)
            obtain ⟨big, hbig⟩ : ∃ big, big = ((W1.alloc (.cells #[.string ⟨x.toArray⟩, .int .i64 n] 44)).alloc (.cells #[.string ⟨x.toArray⟩, .int .i64 n] 44)).drew := ⟨_, rfl⟩
            have hsb : big.heap.size = W1.heap.size + 1 + 1 := by rw [hbig]; simp
            have hbA : Below W1.heap.size W1 big := by
              rw [hbig]
              exact (((Below.refl _ _).alloc (Nat.le_refl _) _).alloc (by simp) _).trans ((hdr _).mono (by simp; omega))
            have q0 : big.cell? ⟨W1.heap.size, 0, none⟩ = some (.string ⟨x.toArray⟩) := by
              rw [hbig]
              show (((W1.alloc _).alloc _)).cell? _ = _
              rw [World.cell?_alloc_lt _ _ _ (by simp), cell_of_row _ _ _ _ _ _ (heap_alloc_new W1 _)]
              rfl
            have q1 : big.cell? ⟨W1.heap.size, 1, none⟩ = some (.int .i64 n) := by
              rw [hbig]
              show (((W1.alloc _).alloc _)).cell? _ = _
              rw [World.cell?_alloc_lt _ _ _ (by simp), cell_of_row _ _ _ _ _ _ (heap_alloc_new W1 _)]
              rfl
            have HO2 := Lib.hid (hO1.below hbA (Nat.le_refl _))
            have HL2 : Hid (LiesE big (W1.heap.size + 1 + 1) (some ⟨W1.heap.size + 1, 0, none⟩) 1 [(x, n)]) := Lib.hid (by
              rw [hbig]
              exact (lies_own_new (W1.alloc (.cells #[.string ⟨x.toArray⟩, .int .i64 n] 44)) (x, n) (World.size_alloc _ _)).below ((hdr _).mono (by simp)))
            have KE := Lib.hid (fun (w2 : World) (hg : big.grownBy w2 (Value.ownBlock (.slice lo l.length lc))) => show w2.cell? ⟨W1.heap.size, 0, none⟩ = some (.string ⟨x.toArray⟩) ∧ w2.cell? ⟨W1.heap.size, 1, none⟩ = some (.int .i64 n) from ⟨(far hO1 hg ⟨W1.heap.size, 0, none⟩ (Nat.le_refl W1.heap.size) (by show W1.heap.size < _; omega)).trans q0, (far hO1 hg ⟨W1.heap.size, 1, none⟩ (Nat.le_refl W1.heap.size) (by show W1.heap.size < _; omega)).trans q1⟩)
            have HBB := Lib.hid (hbW.trans (hbA.mono hws))
            have hsw : w.heap.size ≤ big.heap.size := by omega
            rw [hbig] at HO2 HL2 KE HBB hsw
            clear hO hO1 hbA q0 q1 hsb hbig hdr hb1 HFI
            go_region_held3 (fun w' => w'.cell? ⟨W1.heap.size, 0, none⟩ = some (.string ⟨x.toArray⟩) ∧ w'.cell? ⟨W1.heap.size, 1, none⟩ = some (.int .i64 n))
              (first
                | go_keep
                | exact KE.out _ hg2)
              (first
                | (refine step_appE rfl (.tmp 24) (.tmp 26) rfl w.heap.size _ l [(x, n)] rfl (by exact HO2.out) _ _ 1 1 rfl rfl (by exact HL2.out) (by simp only [List.length_cons, List.length_nil]; omega) (by exact hsw) ?_; intro v2 w2 hO2 hb2 hg2))
            go_wp2
            go_roundw
            case rel => exact ⟨l ++ [(x, n)], r.drop N, some ⟨b, off + N, none⟩, c2 - N, by simp; omega, by rw [List.length_drop]; omega, by rw [List.length_drop], Lib.hid ⟨HLF.out, hO2, HLD.out, HBY.out⟩, HBB.out.trans hb2⟩
            case measure => show r.length - N < r.length; omega
end En
end Go.Proofs.Ytdilbicdaljfkaa
