/- Take, of the reference; EntryTakes. -/
import Derived.Test.YtdilbicdaljfkaaEnTk
import Derived.Test.YtdilbicdaljfkaaEnRr
import Derived.Test.YtdilbicdaljfkaaEnL
namespace Go.Proofs.Ytdilbicdaljfkaa
set_option maxRecDepth 20000
namespace En
open Go.RowKit Sha

theorem lies_at {w : World} {B b off cap p : Nat} {xs : List Int} (h : Lies w B (some ⟨b, off, none⟩) cap xs) {i : Nat} {y : Int} (hy : (xs.drop p)[i]? = some y) : w.cell? ⟨b, off + (p + i), none⟩ = some (.int .u8 y) := by
  rw [List.getElem?_drop] at hy
  have hl := (List.getElem?_eq_some_iff.1 hy).1
  obtain ⟨b', off', e, _, hc⟩ := h.cells (by rintro rfl; simp at hl)
  injection e with e
  injection e with e1 e2
  subst e1 e2
  rw [hc (p + i) hl, List.getD_eq_getElem?_getD, hy]
  rfl
theorem lies_cut {w : World} {B b off cap p m : Nat} {xs : List Int} (h : Lies w B (some ⟨b, off, none⟩) cap xs) (hm : p + m ≤ xs.length) : Lies w B (some ⟨b, off + p, none⟩) (cap - p) ((xs.drop p).take m) := by
  have h2 := lies_dropB (n := p) h
  refine ⟨by have := h.room; rw [List.length_take, List.length_drop]; omega, (fun e => by cases e), fun hne => ?_⟩
  obtain ⟨b', off', e, hb, hc⟩ := h2.cells (by rintro e; rw [e] at hne; simp at hne)
  refine ⟨b', off', e, hb, fun i hi => ?_⟩
  rw [List.length_take, List.length_drop] at hi
  rw [hc i (by rw [List.length_drop]; omega), List.getD_eq_getElem?_getD, List.getD_eq_getElem?_getD, List.getElem?_take_of_lt (by omega)]

set_option maxHeartbeats 8000000 in
theorem reftake_any (xs : List Int) (ao : Option Addr) (cap : Nat) (w : World) (h : Lies w w.heap.size ao cap xs) (hB : Byte xs) (hn : xs.length ≤ 1048576) :
    Calls Try.prog 18 #[.slice ao xs.length cap] w fun e w' => ∃ v, e = .returned (.tuple #[v, .int .i64 (tE xs)]) ∧ OwnE w' w.heap.size v (tV xs) ∧ Below w.heap.size w w' := by
  have HST := Lib.hid (Left.start xs)
  have HDN := Lib.hid (fun l (hl : Left xs l []) => hl.done)
  have HONE := Lib.hid (fun l n (hl : Left xs l [n]) => hl.one)
  have HSH := Lib.hid (fun l n k r (hl : Left xs l (n :: k :: r)) (hk : ¬ k.toNat ≤ r.length) => hl.short hk)
  have HNX := Lib.hid (fun l n k r (hl : Left xs l (n :: k :: r)) (hk : k.toNat ≤ r.length) => hl.next hk)
  generalize tE xs = c at HDN HONE HSH ⊢
  generalize tV xs = V at HDN HONE HSH ⊢
  go_enter Try.func18, Try.ntmps18
  go_wp2
  go_loopw [4, 5] (fun v s wr => ∃ (l : List E) (p : Nat), p ≤ xs.length ∧ l.length ≤ p ∧ s = .int .i64 p ∧ Hid (Left xs l (xs.drop p) ∧ OwnE wr w.heap.size v l ∧ ∀ x ∈ l, x.1.length ≤ xs.length) ∧ Below w.heap.size w wr) (fun _ s _ => xs.length - (intOf s).toNat)
  case atStart => exact ⟨[], 0, Nat.zero_le _, by simp, rfl, Lib.hid ⟨HST.out, OwnE.nil _ _, fun x hx => by cases hx⟩, Below.refl _ _⟩
  case round =>
    obtain ⟨l, p, hp, hlp, rfl, HI, hb⟩ := hrel
    have hbs := hb.size
    obtain ⟨hleft, hO, hnm⟩ := HI.out
    clear HI HST
    by_cases hlt : p < xs.length
    · obtain ⟨b, off, rfl, hbb, _⟩ := h.cells (by rintro rfl; simp at hlt)
      have hdl : (xs.drop p).length = xs.length - p := List.length_drop
      have hrm := h.room
      by_cases h2 : xs.length - p < 2
      · obtain ⟨n1, hn1⟩ : ∃ n1, xs.drop p = [n1] := by
          match hd : xs.drop p with
          | [] => rw [hd] at hdl; simp at hdl; omega
          | [n1] => exact ⟨n1, rfl⟩
          | _ :: _ :: _ => rw [hd] at hdl; simp at hdl; omega
        rw [hn1] at hleft
        obtain ⟨rfl, rfl⟩ := HONE.out l n1 hleft
        have hwd : IntKind.i64.wrap ((xs.length : Int) - (p : Int)) = (1 : Int) := by rw [IntKind.wrap_i64]; omega
        clear HDN HONE HSH HNX hleft hO hnm h hn1 hdl h2 hB
        go_wp2
        refine bodyPost_ret (results_2 rfl rfl rfl) rfl ?_
        exact ⟨_, rfl, OwnE.nil _ _, hb⟩
      · obtain ⟨n1, k1, r, hd⟩ : ∃ n1 k1 r, xs.drop p = n1 :: k1 :: r := by
          match hd : xs.drop p with
          | [] => rw [hd] at hdl; simp at hdl; omega
          | [_] => rw [hd] at hdl; simp at hdl; omega
          | n1 :: k1 :: r => exact ⟨n1, k1, r, rfl⟩
        have hc0 := lies_at (h.below hb) (p := p) (i := 0) (y := n1) (by rw [hd]; rfl)
        have hc1 := lies_at (h.below hb) (p := p) (i := 1) (y := k1) (by rw [hd]; rfl)
        have hmn : n1 ∈ xs := List.mem_of_mem_drop (i := p) (by rw [hd]; simp)
        have hmk : k1 ∈ xs := List.mem_of_mem_drop (i := p) (by rw [hd]; simp)
        have hbn := hB n1 hmn
        have hbk := hB k1 hmk
        have hrl : r.length + 2 = xs.length - p := by rw [← hdl, hd]; simp
        have hdr2 : xs.drop (p + 2) = r := by
          have : (xs.drop p).drop 2 = r := by rw [hd]; rfl
          rwa [List.drop_drop] at this
        rw [hd] at hleft
        obtain ⟨kn, rfl⟩ : ∃ kn : Nat, k1 = (kn : Int) := ⟨k1.toNat, by omega⟩
        rw [Nat.add_zero] at hc0
        have hw1 : IntKind.i64.wrap ((p : Int) + 1) = ((p + 1 : Nat) : Int) := by rw [IntKind.wrap_i64]; omega
        have hwd : IntKind.i64.wrap ((xs.length : Int) - (p : Int)) = ((r.length + 2 : Nat) : Int) := by rw [IntKind.wrap_i64]; omega
        have hwd2 : IntKind.i64.wrap (((r.length + 2 : Nat) : Int) - 2) = (r.length : Int) := by rw [IntKind.wrap_i64]; omega
        have hwk : IntKind.i64.wrap ((kn : Nat) : Int) = (kn : Int) := by rw [IntKind.wrap_i64]; omega
        have hi1 : ((p + 1 : Nat) : Int) < (xs.length : Int) := by omega
        have hi2 : decide (((r.length + 2 : Nat) : Int) < 2) = false := by simp; omega
        have hi3 : (p : Int) < (xs.length : Int) := by omega
        generalize hp1 : p + 1 = p1 at hw1 hi1 hc1
        generalize hr2 : r.length + 2 = r2 at hwd hwd2 hi2
        by_cases hkr : kn ≤ r.length
        · have hleft2 := HNX.out l n1 kn r hleft (by simpa using hkr)
          have hkt : ((kn : Int)).toNat = kn := by omega
          rw [hkt] at hleft2
          have hde : xs.drop (p + 2 + kn) = r.drop kn := by rw [← hdr2, List.drop_drop]
          rw [← hde] at hleft2
          have hxt : (txt (r.take kn)).length ≤ xs.length := by simp [txt]; omega
          have HNM : Hid (∀ y ∈ l ++ [(txt (r.take kn), n1)], y.1.length ≤ xs.length) := Lib.hid fun y hy => by
            rcases List.mem_append.1 hy with hy | hy
            · exact hnm y hy
            · simp only [List.mem_singleton] at hy
              subst hy
              exact hxt
          have hls := lies_cut (p := p + 2) (m := kn) h (by omega)
          rw [hdr2] at hls
          have hlr : (r.take kn).length = kn := by rw [List.length_take]; omega
          have hc00 : w.cell? ⟨b, off + p, none⟩ = some (.int .u8 n1) := by
            have := lies_at h (p := p) (i := 0) (y := n1) (by rw [hd]; rfl)
            rwa [Nat.add_zero] at this
          obtain ⟨p2, hp2⟩ : ∃ p2, p2 = p + 2 := ⟨_, rfl⟩
          obtain ⟨e2, he2⟩ : ∃ e2, e2 = p2 + kn := ⟨_, rfl⟩
          have hek : e2 - p2 = kn := by omega
          have hcv : ∀ W2, Below w.heap.size w W2 → (convert 25 9 (.slice (some ⟨b, off + p2, none⟩) (e2 - p2) (cap - p2))).run Try.prog W2 = .ok (.string ⟨(txt (r.take kn)).toArray⟩) W2 := fun W2 hb2 => by
            have := run_str W2 w.heap.size (some ⟨b, off + (p + 2), none⟩) (cap - (p + 2)) (r.take kn) (hls.below hb2)
            rw [hlr, str_txt] at this
            rw [hek, hp2]
            exact this
          have hcv1 : cap = p2 → ∀ W2, Below w.heap.size w W2 → (convert 25 9 (.slice (some ⟨b, off, none⟩) 0 0)).run Try.prog W2 = .ok (.string ⟨(txt (r.take kn)).toArray⟩) W2 := fun hc2 W2 hb2 => by
            have hk0 : kn = 0 := by omega
            have := run_str W2 w.heap.size (some ⟨b, off, none⟩) 0 [] ⟨Nat.le_refl _, (fun e => by cases e), fun h => absurd rfl h⟩
            rw [hk0, List.take_zero]
            exact this
          have hee : p + 2 + kn = e2 := by omega
          rw [hee] at hleft2
          have HLF := Lib.hid hleft2
          generalize txt (r.take kn) = X at hcv hcv1 HLF HNM
          have hw2 : IntKind.i64.wrap ((p : Int) + 2) = (p2 : Int) := by rw [IntKind.wrap_i64]; omega
          have hw3 : IntKind.i64.wrap ((p2 : Int) + (kn : Int)) = (e2 : Int) := by rw [IntKind.wrap_i64]; omega
          have hwn : IntKind.i64.wrap n1 = n1 := by rw [IntKind.wrap_i64]; omega
          have hi4 : decide ((r.length : Int) < (kn : Int)) = false := by simp; omega
          have hi5 : decide (r.length < kn) = false := by simp; omega
          have hi6 : ¬ r.length < kn := by omega
          have hj1 : (p2 : Int) ≤ (e2 : Int) := by omega
          have hj2 : (e2 : Int) ≤ (cap : Int) := by omega
          have hj3 : p2 ≤ e2 := by omega
          have hj4 : e2 ≤ cap := by omega
          have hj5 : e2 ≤ xs.length := by omega
          have hj6 : p < e2 := by omega
          have hj7 : p < xs.length := by omega
          have hlp2 : l.length + 1 ≤ e2 := by omega
          have hpe : cap = p2 → e2 = p2 := by omega
          clear HDN HONE HSH HNX hleft hleft2 hnm h hd hdl h2 hB hdr2 hrl hp1 hr2 hkr hmn hmk hlt hc0 hls hlr hkt hde hxt hp2 he2 hek hee
          by_cases hcc : cap = p2
          · obtain rfl := hpe hcc
            have hcc2 := hcc
            clear hpe hcv
            subst hcc
            have HCC : True := trivial
            have HCV : Hid (∀ W2, Below w.heap.size w W2 → W2.cell? ⟨b, off + p, none⟩ = some (.int .u8 n1) ∧ (convert 25 9 (.slice (some ⟨b, off, none⟩) 0 (0))).run Try.prog W2 = .ok (.string ⟨X.toArray⟩) W2) := Lib.hid fun W2 hb2 => ⟨(hb2.cell (p := ⟨b, off + p, none⟩) hbb).trans hc00, hcv1 hcc2 W2 hb2⟩
            have hO2 := hO
            have hdr : ∀ W : World, Below W.heap.size W W.drew := fun W => below_drewN (Below.refl _ _) 1
            obtain ⟨q0, q1⟩ := HCV.out wr hb
            have HOB := Lib.hid ((hO.alloc (.cells #[.string ⟨X.toArray⟩, .int .i64 n1] 44)).below (hdr _) (Nat.le_refl _))
            have HLB := Lib.hid ((lies_own_new wr (X, n1) rfl).below ((hdr (wr.alloc (.cells #[.string ⟨X.toArray⟩, .int .i64 n1] 44))).mono (by simp)))
            have HBB := Lib.hid ((hb.alloc hbs (.cells #[.string ⟨X.toArray⟩, .int .i64 n1] 44)).trans ((hdr _).mono (by simp; omega)))
            have hsw : w.heap.size ≤ (wr.alloc (.cells #[.string ⟨X.toArray⟩, .int .i64 n1] 44)).drew.heap.size := HBB.out.size
            clear hO hO2 hdr hc00
            go_wp2
            go_region_held3 (fun w' => w'.cell? ⟨b, off + p, none⟩ = some (.int .u8 n1) ∧ (convert 25 9 (.slice (some ⟨b, off, none⟩) 0 (0))).run Try.prog w' = .ok (.string ⟨X.toArray⟩) w')
              (first
                | exact ⟨q0, q1⟩
                | exact HCV.out _ hb
                | exact HCV.out _ HBB.out
                | exact HCV.out _ (below_drewN hb 1)
                | exact HCV.out _ (HBB.out.trans hb2))
              (first
                | (refine step_appE rfl (.tmp 36) (.tmp 52) rfl w.heap.size _ l [(X, n1)] rfl (by exact HOB.out) _ _ 1 1 rfl rfl (by exact HLB.out) (by simp only [List.length_cons, List.length_nil]; omega) (by exact hsw) ?_; intro v2 w2 hO2 hb2 _))
            go_wp2
            go_roundw
            case rel => exact ⟨l ++ [(X, n1)], cap, by omega, by simp; omega, rfl, Lib.hid ⟨HLF.out, hO2, HNM.out⟩, HBB.out.trans hb2⟩
            case measure => simp [intOf]; omega
          · clear hpe hcv1
            have HCV : Hid (∀ W2, Below w.heap.size w W2 → W2.cell? ⟨b, off + p, none⟩ = some (.int .u8 n1) ∧ (convert 25 9 (.slice (some ⟨b, off + p2, none⟩) (e2 - p2) (cap - p2))).run Try.prog W2 = .ok (.string ⟨X.toArray⟩) W2) := Lib.hid fun W2 hb2 => ⟨(hb2.cell (p := ⟨b, off + p, none⟩) hbb).trans hc00, hcv W2 hb2⟩
            have hO2 := hO
            have hdr : ∀ W : World, Below W.heap.size W W.drew := fun W => below_drewN (Below.refl _ _) 1
            obtain ⟨q0, q1⟩ := HCV.out wr hb
            have HOB := Lib.hid ((hO.alloc (.cells #[.string ⟨X.toArray⟩, .int .i64 n1] 44)).below (hdr _) (Nat.le_refl _))
            have HLB := Lib.hid ((lies_own_new wr (X, n1) rfl).below ((hdr (wr.alloc (.cells #[.string ⟨X.toArray⟩, .int .i64 n1] 44))).mono (by simp)))
            have HBB := Lib.hid ((hb.alloc hbs (.cells #[.string ⟨X.toArray⟩, .int .i64 n1] 44)).trans ((hdr _).mono (by simp; omega)))
            have hsw : w.heap.size ≤ (wr.alloc (.cells #[.string ⟨X.toArray⟩, .int .i64 n1] 44)).drew.heap.size := HBB.out.size
            clear hO hO2 hdr hc00
            go_wp2
            go_region_held3 (fun w' => w'.cell? ⟨b, off + p, none⟩ = some (.int .u8 n1) ∧ (convert 25 9 (.slice (some ⟨b, off + p2, none⟩) (e2 - p2) (cap - p2))).run Try.prog w' = .ok (.string ⟨X.toArray⟩) w')
              (first
                | exact ⟨q0, q1⟩
                | exact HCV.out _ hb
                | exact HCV.out _ HBB.out
                | exact HCV.out _ (below_drewN hb 1)
                | exact HCV.out _ (HBB.out.trans hb2))
              (first
                | (refine step_appE rfl (.tmp 36) (.tmp 52) rfl w.heap.size _ l [(X, n1)] rfl (by exact HOB.out) _ _ 1 1 rfl rfl (by exact HLB.out) (by simp only [List.length_cons, List.length_nil]; omega) (by exact hsw) ?_; intro v2 w2 hO2 hb2 _))
            go_wp2
            go_roundw
            case rel => exact ⟨l ++ [(X, n1)], e2, by omega, by simp; omega, rfl, Lib.hid ⟨HLF.out, hO2, HNM.out⟩, HBB.out.trans hb2⟩
            case measure => simp [intOf]; omega
        · obtain ⟨rfl, rfl⟩ := HSH.out l n1 kn r hleft (by simpa using hkr)
          have hi4 : decide ((r.length : Int) < (kn : Int)) = true := by simp; omega
          have hi5 : decide (r.length < kn) = true := by simp; omega
          have hi6 : r.length < kn := by omega
          clear HDN HONE HSH HNX hleft hO hnm h hd hdl h2 hB hdr2 hrl hp1 hr2 hkr hmn hmk hlt hc0
          go_wp2
          refine bodyPost_ret (results_2 rfl rfl rfl) rfl ?_
          exact ⟨_, rfl, OwnE.nil _ _, hb⟩
    · obtain rfl : p = xs.length := by omega
      rw [List.drop_length] at hleft
      obtain ⟨hd1, hd2⟩ := HDN.out l hleft
      obtain ⟨lo, lc, rfl, hlE, _⟩ := hO.slice
      have HRI := Lib.hid (refright_any l lo lc wr hlE (by omega) (fun x hx => by have := hnm x hx; omega))
      have HOW := Lib.hid (fun W (hb2 : Below wr.heap.size wr W) => hO.below hb2 (Nat.le_refl _))
      clear HDN HONE HSH HNX hleft hO hnm h hlE hlt
      by_cases hrt : rt l = true
      · obtain ⟨rfl, rfl⟩ := hd1 hrt
        rw [hrt] at HRI
        clear hd1 hd2 hrt
        go_wp2_with (go_at_call 12; refine HRI.out.mono ?_; rintro _ W1 ⟨rfl, hb1⟩)
        refine bodyPost_ret (results_2 rfl rfl rfl) rfl ?_
        exact ⟨_, rfl, HOW.out _ hb1, hb.trans (hb1.mono hbs)⟩
      · have hrt' : rt l = false := by simpa using hrt
        obtain ⟨rfl, rfl⟩ := hd2 hrt'
        rw [hrt'] at HRI
        clear hd1 hd2 hrt hrt'
        go_wp2_with (go_at_call 12; refine HRI.out.mono ?_; rintro _ W1 ⟨rfl, hb1⟩)
        refine bodyPost_ret (results_2 rfl rfl rfl) rfl ?_
        exact ⟨_, rfl, OwnE.nil _ _, hb.trans (hb1.mono hbs)⟩

theorem tV_len (xs : List Int) : (tV xs).length ≤ 40 := by
  unfold tV
  split
  · simp
  · split
    · rename_i h
      exact rt_len h
    · simp

set_option maxHeartbeats 4000000 in
theorem entrytakes_any (xs : List Int) (ao : Option Addr) (cap : Nat) (w : World) (h : Lies w w.heap.size ao cap xs) (hB : Byte xs) (hn : xs.length ≤ 1048576) :
    Calls Try.prog 4 #[.slice ao xs.length cap] w fun e w' => e = .returned (.bool true) ∧ Below w.heap.size w w' := by
  have HA := Lib.hid (alive_any w)
  have HL := Lib.hid (fun W (hb : Below w.heap.size w W) => (h.below hb).more hb.size)
  have HC := Lib.hid (fun W (hb : Below w.heap.size w W) => copy_any ao cap xs W (HL.out W hb) (by omega))
  have HT := Lib.hid (fun bo c W (h2 : Lies W W.heap.size bo c xs) => take_any xs bo c W h2 hB (by omega))
  have HR := Lib.hid (fun W (hb : Below w.heap.size w W) => reftake_any xs ao cap W (HL.out W hb) hB hn)
  have HBS := Lib.hid (fun co cc B B' W2 (h1 : Lies W2 B co cc xs) (h2 : Lies W2 B' ao cap xs) => same_any co ao cc cap B B' _ _ xs xs W2 rfl rfl h1 h2 hB hB)
  simp only [decide_true] at HBS
  have hml := tV_len xs
  generalize tV xs = M at HT HR hml
  generalize tE xs = c at HT HR
  have HSE := Lib.hid (fun po pc qo qc W2 (hp : LiesE W2 W2.heap.size po pc M) (hq : LiesE W2 W2.heap.size qo qc M) => sameE_any M M po qo pc qc W2 hp hq (by omega) (by omega))
  simp only [decide_true] at HSE
  clear h hB hn hml
  go_enter Try.func4, Try.ntmps4
  go_wp2_with fail
  refine HA.out.mono ?_
  rintro _ w1 ⟨rfl, hb1⟩
  go_wp2_with fail
  refine (HC.out w1 hb1).mono ?_
  rintro _ w2 ⟨v2, rfl, hO2, hb2⟩
  obtain ⟨oo, oc, rfl, hOL⟩ := OwnB.slice hO2
  have hB2 := hb1.trans (hb2.mono hb1.size)
  clear hO2 hb2 hb1
  go_wp2_with fail
  refine (HT.out oo oc w2 hOL).mono ?_
  rintro _ w3 ⟨v3, rfl, hO3, hb3⟩
  obtain ⟨po, pc, rfl, hP, _⟩ := hO3.slice
  have hB3 := hB2.trans (hb3.mono hB2.size)
  have hOL3 := (hOL.below hb3).more hb3.size
  clear hO3 hOL hb3
  go_wp2_with fail
  refine (HR.out w3 hB3).mono ?_
  rintro _ w4 ⟨v4, rfl, hO4, hb4⟩
  obtain ⟨qo, qc, rfl, hQ, _⟩ := hO4.slice
  have hB4 := hB3.trans (hb4.mono hB3.size)
  have hOL4 := (hOL3.below hb4).more hb4.size
  have hP4 := hP.to hb4 hb4.size
  clear hO4 hOL3 hP hb4
  go_wp2_with fail
  refine (HSE.out po pc qo qc w4 hP4 hQ).mono ?_
  rintro _ w5 ⟨rfl, hb5⟩
  have hB5 := hB4.trans (hb5.mono hB4.size)
  have hOL5 := (hOL4.below hb5).more hb5.size
  have hL5 := HL.out w5 hB5
  clear hOL4 hP4 hQ hb5 HA HC HT HR HSE HL
  go_wp2_with (go_at_call 14; refine (HBS.out oo oc _ _ w5 hOL5 hL5).mono ?_; rintro _ _ ⟨rfl, rfl⟩)
  go_ret
  exact ⟨rfl, hB5⟩
end En
end Go.Proofs.Ytdilbicdaljfkaa
