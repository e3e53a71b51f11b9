/- Where an entry of a name would stand: the search. -/
import Derived.Test.YtdilbicdaljfkaaEnR
import Derived.Shelf.Abstract
namespace Go.Proofs.Ytdilbicdaljfkaa
set_option maxRecDepth 20000
namespace En
open Go.RowKit Sha

set_option maxHeartbeats 1000000 in
theorem cmpf_any (x : E) (n : T) (w : World) : Calls Try.prog 40 #[.agg (eV x).toArray, .string ⟨n.toArray⟩] w fun e w' => e = .returned (.int .i64 (Lib.compareBytes x.1 n)) ∧ Below w.heap.size w w' := by
  obtain ⟨x, k⟩ := x
  have HC := Lib.hid (fun W => EnS.strings_Compare ⟨x.toArray⟩ ⟨n.toArray⟩ W)
  have e1 : (⟨x.toArray⟩ : ByteArray).data.toList = x := rfl
  have e2 : (⟨n.toArray⟩ : ByteArray).data.toList = n := rfl
  rw [e1, e2] at HC
  simp only
  generalize Lib.compareBytes x n = c at HC ⊢
  show Calls Try.prog 40 #[.agg #[.string ⟨x.toArray⟩, .int .i64 k], .string ⟨n.toArray⟩] w _
  have hb : ∀ o, Below w.heap.size w (w.alloc o) := fun o => (Below.refl _ _).alloc (Nat.le_refl _) o
  go_enter Try.func40, Try.ntmps40
  go_wp2_with (go_at_call 41; refine (HC.out _).mono ?_; rintro _ _ ⟨rfl, rfl⟩)
  go_ret
  exact ⟨rfl, hb _⟩
theorem enters_cmpf : Enters Try.prog 40 := fun args w => enters_of Try.func40 (by kernel_rfl) rfl args w

set_option maxHeartbeats 4000000 in
theorem search_any (l : List E) (n : T) (ao : Option Addr) (cap : Nat) (w : World) (h : LiesE w w.heap.size ao cap l) (hr : rt l = true) :
    Calls Try.prog 39 #[.slice ao l.length cap, .string ⟨n.toArray⟩, .func (.func 40) #[] #[]] w fun e w' => e = .returned (.tuple #[.int .i64 (pos l n), .bool (at' l n)]) ∧ Below w.heap.size w w' := by
  have hasc : asc none l = true := by simp only [rt, Bool.and_eq_true] at hr; exact hr.2
  have hle := rt_len hr
  have HM := Lib.hid (asc_mono hasc n)
  have HP : Hid (∀ i, i ≤ l.length → (∀ j, (h : j < l.length) → j < i → lt l[j].1 n = true) → (∀ j, (h : j < l.length) → i ≤ j → lt l[j].1 n = false) → pos l n = i) := Lib.hid fun i h1 h2 h3 => pos_is h1 h2 h3
  have HA : Hid (at' l n = match l[pos l n]? with | none => false | some e => decide (e.1 = n)) := Lib.hid rfl
  generalize pos l n = p at HP HA ⊢
  generalize at' l n = a at HA ⊢
  have hEN := enters_cmpf
  unfold Enters at hEN
  clear hr hasc
  go_enter Try.func39, Try.ntmps39
  go_wp2
  go_loopw [9, 10] (fun s t wr => ∃ lo hi : Nat, lo ≤ hi ∧ hi ≤ l.length ∧ s = .int .i64 lo ∧ t = .int .i64 hi ∧ Hid ((∀ j, (h : j < l.length) → j < lo → lt l[j].1 n = true) ∧ (∀ j, (h : j < l.length) → hi ≤ j → lt l[j].1 n = false)) ∧ Below w.heap.size w wr) (fun s t _ => (intOf t).toNat - (intOf s).toNat)
  case atStart => exact ⟨0, l.length, Nat.zero_le _, Nat.le_refl _, rfl, rfl, Lib.hid ⟨fun j _ h => by omega, fun j h h2 => by omega⟩, Below.refl _ _⟩
  case round =>
    obtain ⟨lo, hi, hlh, hhi, rfl, rfl, HI, hb⟩ := hrel
    have hbs := hb.size
    by_cases hlt : lo < hi
    · obtain ⟨m, hm⟩ : ∃ m, m = (lo + hi) / 2 := ⟨_, rfl⟩
      have hm1 : m < l.length := by omega
      have hm2 : ((lo : Int) + (hi : Int)) / 2 = (m : Int) := by omega
      have hm3 : lo ≤ m ∧ m < hi := by omega
      obtain ⟨b, off, rfl, hbb, c0, c1⟩ := (h.below hb).get hm1
      have HMM := Lib.hid (fun j hj hjm h2 => HM.out j m hj hm1 hjm h2)
      have HMN := Lib.hid (fun (h3 : lt l[m].1 n = false) j (hj : j < l.length) (hmj : m ≤ j) => show lt l[j].1 n = false by
        cases e : lt l[j].1 n with
        | false => rfl
        | true => exact absurd (HM.out m j hm1 hj hmj e) (by rw [h3]; decide))
      have HX : Hid (∀ W, Calls Try.prog 40 #[.agg #[.string ⟨l[m].1.toArray⟩, .int .i64 l[m].2], .string ⟨n.toArray⟩] W fun e w' => e = .returned (.int .i64 (Lib.compareBytes l[m].1 n)) ∧ Below W.heap.size W w') := Lib.hid fun W => cmpf_any l[m] n W
      have hcl := cmp_lt l[m].1 n
      clear hm h HM HP HA
      generalize l[m] = x at c0 c1 HMM HMN HX hcl
      obtain ⟨x, nn⟩ := x
      simp only at c0 c1 HMM HMN HX hcl
      generalize Lib.compareBytes x n = c at HX hcl
      by_cases hc : c < 0
      · have hlx := hcl.1 hc
        clear hcl HMN
        go_wp2_with (go_at_call 40; refine (HX.out _).mono ?_; rintro _ w1 ⟨rfl, hb1⟩)
        go_roundw
        case rel => exact ⟨m + 1, hi, by omega, hhi, by go_num, rfl, Lib.hid ⟨fun j hj hjm => by exact HMM.out j hj (by omega) hlx, HI.out.2⟩, hb.trans (hb1.mono hbs)⟩
        case measure => simp [intOf]; omega
      · have hlx : lt x n = false := by
          cases e : lt x n with
          | false => rfl
          | true => exact absurd (hcl.2 e) hc
        clear hcl HMM
        go_wp2_with (go_at_call 40; refine (HX.out _).mono ?_; rintro _ w1 ⟨rfl, hb1⟩)
        go_roundw
        case rel => exact ⟨lo, m, by omega, by omega, rfl, by go_num, Lib.hid ⟨HI.out.1, fun j hj hjm => HMN.out hlx j hj hjm⟩, hb.trans (hb1.mono hbs)⟩
        case measure => simp [intOf]; omega
    · obtain rfl : lo = hi := by omega
      obtain rfl := HP.out lo hhi HI.out.1 HI.out.2
      by_cases hlo : p < l.length
      · obtain ⟨b, off, rfl, hbb, c0, c1⟩ := (h.below hb).get hlo
        have ha : Hid (a = decide (l[p].1 = n)) := Lib.hid (by rw [HA.out, List.getElem?_eq_getElem hlo])
        have HX : Hid (∀ W, Calls Try.prog 40 #[.agg #[.string ⟨l[p].1.toArray⟩, .int .i64 l[p].2], .string ⟨n.toArray⟩] W fun e w' => e = .returned (.int .i64 (Lib.compareBytes l[p].1 n)) ∧ Below W.heap.size W w') := Lib.hid fun W => cmpf_any l[p] n W
        have hcl := cmp_eq0 l[p].1 n
        clear h HM HP HA HI
        generalize l[p] = x at c0 c1 ha HX hcl
        obtain ⟨x, nn⟩ := x
        simp only at c0 c1 ha HX hcl
        generalize Lib.compareBytes x n = c at HX hcl
        have ha2 : Hid (a = decide (c = 0)) := Lib.hid (by rw [ha.out]; simp [hcl])
        clear ha hcl
        have hd : decide ((p : Int) < (l.length : Int)) = true := by simp; omega
        go_wp2_with (go_at_call 40; refine (HX.out _).mono ?_; rintro _ w1 ⟨rfl, hb1⟩)
        refine bodyPost_ret (results_2 rfl rfl rfl) rfl ?_
        exact ⟨by rw [ha2.out]; rfl, hb.trans (hb1.mono hbs)⟩
      · have ha : Hid (a = false) := Lib.hid (by rw [HA.out, List.getElem?_eq_none (by omega)])
        clear h HM HP HA HI
        have hd : decide ((p : Int) < (l.length : Int)) = false := by simp; omega
        go_wp2
        refine bodyPost_ret (results_2 rfl rfl rfl) rfl ?_
        exact ⟨by rw [ha.out]; rfl, hb⟩

set_option maxHeartbeats 1000000 in
theorem place_any (l : List E) (n : T) (ao : Option Addr) (cap : Nat) (w : World) (h : LiesE w w.heap.size ao cap l) (hr : rt l = true) :
    Calls Try.prog 35 #[.slice ao l.length cap, .string ⟨n.toArray⟩] w fun e w' => e = .returned (.tuple #[.int .i64 (pos l n), .bool (at' l n)]) ∧ Below w.heap.size w w' := by
  have HS := Lib.hid (search_any l n ao cap w h hr)
  clear h hr
  generalize pos l n = p at HS ⊢
  generalize at' l n = a at HS ⊢
  go_enter Try.func35, Try.ntmps35
  go_wp2_with (go_at_call 39; refine HS.out.mono ?_; rintro _ w1 ⟨rfl, hb1⟩)
  refine bodyPost_ret (results_2 rfl rfl rfl) rfl ?_
  exact ⟨rfl, hb1⟩
end En
end Go.Proofs.Ytdilbicdaljfkaa
