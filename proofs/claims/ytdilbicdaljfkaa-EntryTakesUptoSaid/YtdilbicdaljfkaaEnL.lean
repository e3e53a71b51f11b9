/- The fixed fact, EntryPuts. -/
import Derived.Test.YtdilbicdaljfkaaEnB
import Derived.Test.YtdilbicdaljfkaaEnO
import Derived.Test.YtdilbicdaljfkaaEnRr
namespace Go.Proofs.Ytdilbicdaljfkaa
set_option maxRecDepth 20000
namespace En
open Go.RowKit Sha

theorem al_with : wE [([98], 2)] ([97], 5) = 0 ∧ wV [([98], 2)] ([97], 5) = [([97], 5), ([98], 2)] := by decide +kernel
theorem al_put : pE [([97], 5), ([98], 2)] = 0 ∧ pV [([97], 5), ([98], 2)] = [5, 1, 97, 2, 1, 98] := by decide +kernel
theorem lies_six (w : World) {g : Nat} (hg : w.heap.size = g) : Lies (w.alloc (.cells #[.int .u8 5, .int .u8 1, .int .u8 97, .int .u8 2, .int .u8 1, .int .u8 98] 5)) (g + 1) (some ⟨g, 0, none⟩) 6 [5, 1, 97, 2, 1, 98] := by
  subst hg
  refine ⟨Nat.le_refl _, (fun e => by cases e), fun _ => ⟨_, _, rfl, by simp, fun i hi => ?_⟩⟩
  rw [cell_of_row _ w.heap.size _ _ 5 _ (heap_alloc_new w _)]
  match i, hi with
  | 0, _ => rfl
  | 1, _ => rfl
  | 2, _ => rfl
  | 3, _ => rfl
  | 4, _ => rfl
  | 5, _ => rfl
theorem byte_six : Byte [5, 1, 97, 2, 1, 98] := by
  intro x hx
  simp only [List.mem_cons, List.not_mem_nil, or_false] at hx
  omega

set_option maxHeartbeats 2000000 in
theorem alive_any (w : World) : Calls Try.prog 8 #[] w fun e w' => e = .returned (.bool true) ∧ Below w.heap.size w w' := by
  have hb0 : Below w.heap.size w (w.alloc (.cells #[.string ⟨#[98]⟩, .int .i64 2] 44)) := (Below.refl _ _).alloc (Nat.le_refl _) _
  have hs0 : (w.alloc (.cells #[.string ⟨#[98]⟩, .int .i64 2] 44)).heap.size = w.heap.size + 1 := World.size_alloc _ _
  have HWI : Hid (Calls Try.prog 24 #[.slice (some ⟨w.heap.size, 0, none⟩) 1 1, .agg #[.string ⟨#[97]⟩, .int .i64 5]] (w.alloc (.cells #[.string ⟨#[98]⟩, .int .i64 2] 44)) fun e w' => ∃ v, e = .returned (.tuple #[v, .int .i64 0]) ∧ OwnE w' w.heap.size v [([97], 5), ([98], 2)] ∧ Below w.heap.size w w') := Lib.hid (by
    have h := with_any [([98], 2)] ([97], 5) _ 1 _ ((lies_own_new w ([98], 2) rfl).more (show w.heap.size + 1 ≤ (w.alloc (.cells #[.string ⟨#[98]⟩, .int .i64 2] 44)).heap.size by omega))
    rw [al_with.1, al_with.2] at h
    refine h.mono ?_
    rintro _ w1 ⟨v, rfl, hO, hb⟩
    exact ⟨v, rfl, hO.less (by have := hb0.size; exact this), hb0.trans (hb.mono hb0.size)⟩)
  clear hb0 hs0
  go_enter Try.func8, Try.ntmps8
  go_wp2_with fail
  refine HWI.out.mono ?_
  rintro _ w1 ⟨v, rfl, hO, hb1⟩
  obtain ⟨ao, cp, rfl, hl, _⟩ := hO.slice
  have HP := Lib.hid (put_any _ ao cp w1 hl)
  rw [al_put.1, al_put.2] at HP
  clear hO hl HWI
  go_wp2_with fail
  refine HP.out.mono ?_
  rintro _ w2 ⟨v2, rfl, hO2, hb2⟩
  obtain ⟨bo, cp2, rfl, hl2⟩ := hO2.slice
  have hB2 := hb1.trans (hb2.mono hb1.size)
  have hb3 : Below w2.heap.size w2 (w2.alloc (.cells #[.int .u8 5, .int .u8 1, .int .u8 97, .int .u8 2, .int .u8 1, .int .u8 98] 5)) := (Below.refl _ _).alloc (Nat.le_refl _) _
  have HS := Lib.hid (same_any bo (some ⟨w2.heap.size, 0, none⟩) cp2 6 _ _ 6 6 [5, 1, 97, 2, 1, 98] [5, 1, 97, 2, 1, 98] _ rfl rfl (hl2.below hb3) (lies_six w2 rfl) byte_six byte_six)
  rw [decide_eq_true rfl] at HS
  have HB3 := Lib.hid (hB2.trans (hb3.mono hB2.size))
  clear hO2 hl2 hb3 hb1 hb2 HP
  go_wp2_with (go_at_call 14; refine HS.out.mono ?_; rintro _ _ ⟨rfl, rfl⟩)
  go_ret
  exact ⟨rfl, HB3.out⟩

set_option maxHeartbeats 4000000 in
theorem entryputs_any (l : List E) (ao : Option Addr) (cap : Nat) (w : World) (h : LiesE w w.heap.size ao cap l) (hn : l.length * 24 ≤ 140737488355328) (hs : ∀ x ∈ l, x.1.length ≤ 140737488355328) :
    Calls Try.prog 3 #[.slice ao l.length cap] w fun e w' => e = .returned (.bool true) ∧ Below w.heap.size w w' := by
  have HA := Lib.hid (alive_any w)
  have HL := Lib.hid (fun W (hb : Below w.heap.size w W) => h.to hb hb.size)
  have HC := Lib.hid (fun W (hb : Below w.heap.size w W) => copyE_any l ao cap W (HL.out W hb) hn)
  have HRR := Lib.hid (fun W (hb : Below w.heap.size w W) => refright_any l ao cap W (HL.out W hb) (by omega) hs)
  have HBY := Lib.hid (fun (hr : rt l = true) W (hb : Below w.heap.size w W) => refbytes_any l ao cap W (HL.out W hb) hr)
  have HPU := Lib.hid (fun bo c W (h2 : LiesE W W.heap.size bo c l) => put_any l bo c W h2)
  have HRI := Lib.hid (fun bo c W (h2 : LiesE W W.heap.size bo c l) => right_any l bo c W h2)
  have HSE : Hid (∀ bo c W, Below w.heap.size w W → LiesE W W.heap.size bo c l → Calls Try.prog 13 #[.slice bo l.length c, .slice ao l.length cap] W fun e w' => e = .returned (.bool true) ∧ Below W.heap.size W w') := Lib.hid fun bo c W hb h2 => by
    have := sameE_any l l bo ao c cap W h2 (HL.out W hb) (by omega) (by omega)
    rwa [decide_eq_true rfl] at this
  have HBB : Hid (rt l = true → Byte (byL l)) := Lib.hid fun hr => by
    intro z hz
    obtain ⟨x, hx, hz⟩ := List.mem_flatMap.1 hz
    obtain ⟨hv, h1, h2⟩ := rt_mem hr x hx
    have hvl := valid_len hv
    simp only [by1, List.mem_cons, nb, List.mem_map] at hz
    rcases hz with rfl | rfl | ⟨b, _, rfl⟩
    · omega
    · omega
    · have := b.toNat_lt
      omega
  by_cases hr : rt l = true
  · have e1 : pE l = 0 := by simp [pE, hr]
    have e2 : pV l = byL l := by simp [pV, hr]
    have HBY := Lib.hid (HBY.out hr)
    have hbb := HBB.out hr
    rw [hr] at HRR HRI
    rw [e1, e2] at HPU
    clear h hn hs hr e1 e2 HBB
    go_enter Try.func3, Try.ntmps3
    go_wp2_with (first
      | (go_at_call 8; refine HA.out.mono ?_; rintro _ w1 ⟨rfl, hb1⟩)
      | (go_at_call 9; refine (HC.out w1 hb1).mono ?_; rintro _ w2 ⟨v, rfl, hO, hb2⟩; obtain ⟨bo, c, rfl, hl2, _⟩ := hO.slice; have hB2 := hb1.trans (hb2.mono hb1.size); clear hO)
      | (go_at_call 10; refine (HPU.out bo c w2 hl2).mono ?_; rintro _ w3 ⟨v3, rfl, hO3, hb3⟩; obtain ⟨do_, c3, rfl, hl3⟩ := hO3.slice; have hB3 := hB2.trans (hb3.mono hB2.size); have hl23 := hl2.to hb3 hb3.size; clear hO3 hl2)
      | (go_at_call 11; refine (HRI.out bo c w3 hl23).mono ?_; rintro _ w4 ⟨rfl, hb4⟩; have hB4 := hB3.trans (hb4.mono hB3.size); have hl24 := hl23.to hb4 hb4.size; have hl34 := hl3.below hb4; clear hl23 hl3)
      | (go_at_call 12; first
          | (refine (HRR.out w6 hB6).mono ?_; rintro _ w7 ⟨rfl, hb7⟩; have hB7 := hB6.trans (hb7.mono hB6.size); have hl37 := hl36.below (hb7.mono hsz36))
          | (refine (HRR.out w4 hB4).mono ?_; rintro _ w5 ⟨rfl, hb5⟩; have hB5 := hB4.trans (hb5.mono hB4.size); have hl25 := hl24.to hb5 hb5.size; have hsz34 := hb4.size; have hl35 := hl34.below (hb5.mono hsz34); clear hl24 hl34))
      | (go_at_call 13; refine (HSE.out bo c w5 hB5 hl25).mono ?_; rintro _ w6 ⟨rfl, hb6⟩; have hB6 := hB5.trans (hb6.mono hB5.size); have hsz36 : w3.heap.size ≤ w6.heap.size := (by have := hb4.size; have := hb5.size; have := hb6.size; omega); have hl36 := hl35.below (hb6.mono (by have := hb4.size; have := hb5.size; omega)); clear hl25 hl35)
      | (go_at_call 15; refine (HBY.out w7 hB7).mono ?_; rintro _ w8 ⟨v8, rfl, hO8, hb8⟩; obtain ⟨eo, c8, rfl, hl8⟩ := hO8.slice; have hB8 := hB7.trans (hb8.mono hB7.size); have hl38 := hl37.below (hb8.mono (by have := hb7.size; omega)); clear hO8 hl37)
      | (go_at_call 14; refine (same_any do_ eo c3 c8 _ _ _ _ (byL l) (byL l) w8 rfl rfl hl38 hl8 hbb hbb).mono ?_; rintro _ _ ⟨rfl, rfl⟩; rw [decide_eq_true rfl])
      | go_in)
    go_ret
    exact ⟨rfl, by assumption⟩
  · have hr' : rt l = false := by simpa using hr
    have e1 : pE l = 1 := by simp [pE, hr']
    have e2 : pV l = [] := by simp [pV, hr']
    rw [hr'] at HRR HRI
    rw [e1, e2] at HPU
    clear h hn hs hr hr' e1 e2 HBY HBB
    go_enter Try.func3, Try.ntmps3
    go_wp2_with (first
      | (go_at_call 8; refine HA.out.mono ?_; rintro _ w1 ⟨rfl, hb1⟩)
      | (go_at_call 9; refine (HC.out w1 hb1).mono ?_; rintro _ w2 ⟨v, rfl, hO, hb2⟩; obtain ⟨bo, c, rfl, hl2, _⟩ := hO.slice; have hB2 := hb1.trans (hb2.mono hb1.size); clear hO)
      | (go_at_call 10; refine (HPU.out bo c w2 hl2).mono ?_; rintro _ w3 ⟨v3, rfl, hO3, hb3⟩; obtain ⟨do_, c3, rfl, hl3⟩ := hO3.slice; have hB3 := hB2.trans (hb3.mono hB2.size); have hl23 := hl2.to hb3 hb3.size; clear hO3 hl2 hl3)
      | (go_at_call 11; refine (HRI.out bo c w3 hl23).mono ?_; rintro _ w4 ⟨rfl, hb4⟩; have hB4 := hB3.trans (hb4.mono hB3.size); have hl24 := hl23.to hb4 hb4.size; clear hl23)
      | (go_at_call 12; first
          | (refine (HRR.out w6 hB6).mono ?_; rintro _ w7 ⟨rfl, hb7⟩; have hB7 := hB6.trans (hb7.mono hB6.size))
          | (refine (HRR.out w4 hB4).mono ?_; rintro _ w5 ⟨rfl, hb5⟩; have hB5 := hB4.trans (hb5.mono hB4.size); have hl25 := hl24.to hb5 hb5.size; clear hl24))
      | (go_at_call 13; refine (HSE.out bo c w5 hB5 hl25).mono ?_; rintro _ w6 ⟨rfl, hb6⟩; have hB6 := hB5.trans (hb6.mono hB5.size); clear hl25)
      | go_in)
    go_ret
    exact ⟨rfl, by assumption⟩
end En
end Go.Proofs.Ytdilbicdaljfkaa
