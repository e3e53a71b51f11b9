/- SpaceNever: the law's walk (made by tools/gen_spnever.py). -/
import Derived.Test.YtdbmdocmnhgbpaaSpNvW
import Derived.Test.YtdbmdocmnhgbpaaSpAlive
import Derived.Deep.CutBlock
import Derived.Deep.DeepCutAuto
import Derived.Deep.RegionLaw
import Derived.BigRegion
import Derived.Deep.MidRow
namespace Go.Proofs.Ytdbmdocmnhgbpaa
set_option maxRecDepth 20000
namespace Sp
open Go.RowKit Dk Eqb Byt

attribute [local irreducible] wpQuiet
theorem nv_new : nwS 3 20 6 3 = 3 ∧ nwS 3 20 6 20 = 20 ∧ nwS 3 20 6 6 = 6 ∧ nwN 3 20 6 = 12 ∧ nwE 3 20 6 = 0 := by decide +kernel
/-- ahead of the j-th step -/
def AtN (w0 : World) (g j : Nat) (vH vK vG vD : Value) (w : World) : Prop :=
  ∃ f H K G D, NvS f (sx H) (· ∈ K) (· ∈ G) (· ∈ D) ∧ (∀ p, p ∈ H → Hp p) ∧ H.length ≤ j ∧ K.length ≤ 600 ∧ G.length ≤ 600 * j ∧ D.length ≤ 2 * j ∧ NvW w0 g f H K G D vH vK vG vD w
theorem atN_start {w0 w : World} {g cap : Nat} {ao : Option Addr} (hb : Below w0.heap.size w0 w) (hf : w0.heap.size ≤ g) (hx : Bs w g 3 20 6 ao 12 cap) (hs : St w w.heap.size ao 12 cap (fun _ => 0)) : AtN w0 g 0 (.slice none 0 0) (.slice none 0 0) (.slice none 0 0) (.slice none 0 0) w :=
  ⟨_, [], [], [], [], nv_start.weak (fun _ h => by simp at h) (fun _ h => by simp at h) (fun _ h => by simp at h), fun p hp => by simp at hp, by simp, by simp, by simp, by simp, nvw_start hb hf hx hs⟩
theorem AtN.next {w0 w : World} {g j : Nat} {vH vK vG vD : Value} (h : AtN w0 g j vH vK vG vD w) : AtN w0 g (j + 1) vH vK vG vD w := by
  obtain ⟨f, H, K, G, D, h1, h2, h3, h4, h5, h6, h7⟩ := h
  exact ⟨f, H, K, G, D, h1, h2, by omega, h4, by omega, by omega, h7⟩
theorem AtN.more {w0 w w' : World} {g j : Nat} {vH vK vG vD : Value} (h : AtN w0 g j vH vK vG vD w) (hb : Below w.heap.size w w') : AtN w0 g j vH vK vG vD w' := by
  obtain ⟨f, H, K, G, D, h1, h2, h3, h4, h5, h6, h7⟩ := h
  exact ⟨f, H, K, G, D, h1, h2, h3, h4, h5, h6, h7.more hb⟩
theorem AtN.below {w0 w : World} {g j : Nat} {vH vK vG vD : Value} (h : AtN w0 g j vH vK vG vD w) : Below w0.heap.size w0 w := by
  obtain ⟨f, H, K, G, D, h1, h2, h3, h4, h5, h6, h7⟩ := h
  exact h7.below

section
attribute [local go_sem] zvSp Pt.zvP
set_option maxRecDepth 100000 in
set_option maxHeartbeats 40000000 in
theorem never7_any (la : Option Addr) (ln lc : Nat) (u : Nat → Int) (w : World) (hs : St w w.heap.size la ln lc u) : Calls Try.prog 8 #[.slice la ln lc] w fun e w' => e = .returned (.bool true) ∧ Below w.heap.size w w' := by
  have HA := Lib.hid (alive7_any w)
  have hroom := hs.room
  have HS := Lib.hid hs
  clear hs
  by_cases hbig : 300 < ln
  · as_aux_lemma =>
    have hx : (300 : Int) < (ln : Int) := by omega
    go_enter Try.func8, Try.ntmps8
    go_wp2_with fail
    refine HA.out.mono ?_
    rintro _ w1 ⟨rfl, hb1⟩
    dsimp only
    go_wp2_with fail
    go_ret
    exact ⟨rfl, hb1⟩
  have hx : ¬ (300 : Int) < (ln : Int) := by omega
  have i20 : i64 20 := by unfold i64; omega
  have HN := Lib.hid (fun w1 => New_any 3 20 6 w1 i20)
  rw [nv_new.1, nv_new.2.1, nv_new.2.2.1, nv_new.2.2.2.1, nv_new.2.2.2.2] at HN
  go_enter Try.func8, Try.ntmps8
  go_wp2_with fail
  refine HA.out.mono ?_
  rintro _ w1 ⟨rfl, hb1⟩
  dsimp only
  go_wp2_with fail
  refine (HN.out w1).mono ?_
  rintro _ w2 ⟨ao, cap, rfl, hO, hb2⟩
  dsimp only
  obtain ⟨W, hW⟩ : ∃ W, W = w2.alloc (.cells #[.int .i64 3, .int .i64 20, .int .i64 6, .slice ao 12 cap] 26) := ⟨_, rfl⟩
  have hbW : Below w2.heap.size w2 W := by rw [hW]; exact (Below.refl _ _).alloc (Nat.le_refl _) _
  have hxx : Bs W w2.heap.size 3 20 6 ao 12 cap := by rw [hW]; exact heap_alloc_new _ _
  have hst : St W W.heap.size ao 12 cap (fun _ => 0) := (hO.below hbW).st (fun i _ => by omega) (by omega)
  have HB : Below w.heap.size w W := hb1.trans ((hb2.trans (hbW.mono hb2.size)).mono hb1.size)
  have HST : Hid (AtN w w2.heap.size 0 (.slice none 0 0) (.slice none 0 0) (.slice none 0 0) (.slice none 0 0) W) := Lib.hid (atN_start HB (by have := hb1.size; have := hb2.size; omega) hxx hst)
  have HW := Lib.hid hW
  clear hW hxx hst hO hb1 hb2 hbW HB HA HN
  go_wp2_with (rw [← HW.out])
  generalize w2.heap.size = g at *
  clear HW
  go_loopg [5, 6, 7, 8, 9] ln (fun k vH vK vG vD i wr => ∃ j : Nat, j ≤ ln ∧ k = ln - j ∧ i = .int .i64 j ∧ Hid (AtN w g j vH vK vG vD wr))
  case atStart => exact ⟨0, by omega, by omega, rfl, HST⟩
  case round =>
    clear HST
    obtain ⟨j, hj, rfl, rfl, hR⟩ := hrel
    by_cases hlt : j < ln
    · obtain ⟨lb, off, rfl, hlb, _, hrow⟩ := bytes_tab HS.out.lies (by omega)
      have HL := Lib.hid (fun (w' : World) (hw' : Below w.heap.size w w') => (hw'.cell (p := ⟨lb, off + j, none⟩) hlb).trans (hrow j hlt))
      have cl : wr.cell? ⟨lb, off + j, none⟩ = some (.int .u8 (u j)) := HL.out wr hR.out.below
      obtain ⟨hu0, hu1⟩ := HS.out.byte j hlt
      have hj0 : (0 : Int) ≤ (j : Int) := by omega
      have hj1 : (j : Int) < (ln : Int) := by omega
      clear hrow
      generalize u j = x at *
      go_upto_block 2 with fail
      go_cut [5, 6, 7, 8, 45] (fun vH vK vG vD _ wx => Hid (AtN w g (j + 1) vH vK vG vD wx))
      case first =>
        obtain ⟨f, H, K, G, D, hNS, hHp, l1, l2, l3, l4, hNW⟩ := hR.out
        have HHp := Lib.hid hHp
        have HNS := Lib.hid hNS
        have HNW := Lib.hid hNW
        obtain ⟨aH, cH, rfl⟩ := hNW.rH.shape
        obtain ⟨aK, cK, rfl⟩ := hNW.rK.shape
        obtain ⟨aG, cG, rfl⟩ := hNW.rG.shape
        obtain ⟨aD, cD, rfl⟩ := hNW.rD.shape
        obtain ⟨ao2, cap2, hxx, hst, _⟩ := hNW.sp
        have l300 : j + 1 ≤ 300 := by omega
        clear hNS hHp hNW
        have h5 : x % 5 = 0 ∨ x % 5 = 1 ∨ x % 5 = 2 ∨ x % 5 = 3 ∨ x % 5 = 4 := by omega
        rcases h5 with h5 | h5 | h5 | h5 | h5
        · as_aux_lemma =>
          have HT := Lib.hid (Take_any g 3 20 6 1 ao2 12 cap2 f wr hxx i20 hst)
          clear hxx hst
          have ht := tk_never HNS.out (c := 1) (by omega)
          change (tkE 3 20 6 12 f 1 = 9 ∧ tkF 3 20 6 12 f 1 = f) ∨ ∃ p, Hp p ∧ tkp 3 20 6 12 f 1 = p.A ∧ tkq 3 20 6 12 f 1 = p.B ∧ tkE 3 20 6 12 f 1 = 0 ∧ _ ∧ _ ∧ _ ∧ NvS (tkF 3 20 6 12 f 1) (sx H ++ secs p) (· ∈ K) (· ∈ G) (· ∈ D) at ht
          rcases ht with ⟨e1, e2⟩ | ⟨p, hp, e1, e2, e3, hB1, hB2, hfr, hNS2⟩
          · rw [e1, e2] at HT
            generalize tkp 3 20 6 12 f 1 = a0 at HT
            generalize tkq 3 20 6 12 f 1 = b0 at HT
            clear e1 e2
            go_wp2_with fail
            refine HT.out.mono ?_
            rintro _ w3 ⟨rfl, hT⟩
            dsimp only
            have HR3 := Lib.hid (show AtN w g (j + 1) _ _ _ _ w3 from AtN.next ⟨f, H, K, G, D, HNS.out, HHp.out, l1, l2, l3, l4, HNW.out.turn hT⟩)
            clear hT HT HNW HNS HHp hR cl
            go_wp2_with fail
            go_roundg (ln - (j + 1))
            case measure => omega
            case rel => exact ⟨j + 1, by omega, by omega, by go_num, HR3⟩
          · obtain ⟨a, b, S⟩ := p
            obtain rfl : S = Pt.zS := hp.zero
            dsimp only at e1 e2 hB1 hB2
            have hpa : 0 ≤ a := hp.a
            have hpa2 : a < 4096 := hp.alo
            obtain rfl : b = -1 := hB1 rfl
            rw [e1, e2, e3] at HT
            generalize tkF 3 20 6 12 f 1 = f2 at HT hNS2
            have hsec : secs ⟨a, (-1), Pt.zS⟩ = [a] := secs_one (by show a ≠ -1; omega) rfl
            have HNS2 := Lib.hid hNS2
            have fra := hfr a (by rw [hsec]; simp)
            have HPP := Lib.hid hp
            have FRA := Lib.hid fra
            clear fra hfr hsec hNS2 hp e1 e2 e3 hB1 hB2
            go_wp2_with fail
            refine HT.out.mono ?_
            rintro _ w3 ⟨rfl, hT⟩
            dsimp only
            obtain ⟨W3, hW3⟩ : ∃ W3, W3 = w3.alloc (.cells (Pt.pV ⟨a, (-1), Pt.zS⟩).toArray 44) := ⟨_, rfl⟩
            have hbW3 : Below w3.heap.size w3 W3 := by rw [hW3]; exact (Below.refl _ _).alloc (Nat.le_refl _) _
            have HQ3 : Hid (W3.heap[w3.heap.size]? = some (.cells (Pt.pV ⟨a, (-1), Pt.zS⟩).toArray 44 (0, 0))) := Lib.hid (by rw [hW3]; exact heap_alloc_new _ _)
            have HN4 := Lib.hid ((HNW.out.turn hT).more hbW3)
            have HW3 := Lib.hid hW3
            have hlt3 : w3.heap.size < W3.heap.size := by rw [hW3]; simp
            clear hT HT HNW hR cl hW3 hbW3 h5
            go_wp2_with (first
              | (refine wpList_buildTo rfl 44 #[(0, .tmp 93), (1, .tmp 94)] rfl _ rfl (Pt.pV ⟨a, (-1), Pt.zS⟩).toArray (by simp only [List.map_toArray, List.map_cons, List.map_nil]; exact Pt.built2 _ _) ?_; simp only [Act.put, List.setIfInBounds_toArray, List.set_cons_succ, List.set_cons_zero])
              | (refine @wpList_store_row _ _ _ _ _ _ _ rfl 44 (.tmp 13) (.tmp 95) rfl w3.heap.size (Pt.pV ⟨a, (-1), Pt.zS⟩).toArray rfl rfl 44 _ (heap_alloc_new w3 _) (Pt.sizeP' _) rfl (Pt.pV_all _) ?_; rw [World.setRow_alloc_new]; simp only [Act.put])
              | rw [← HW3.out])
            go_loopg [14] H.length (fun k i wr => ∃ m : Nat, m ≤ H.length ∧ k = H.length - m ∧ i = .int .i64 m ∧ Hid (Below W3.heap.size W3 wr))
            case atStart => exact ⟨0, by omega, by omega, rfl, Lib.hid (Below.refl _ _)⟩
            case round =>
              obtain ⟨m, hm, rfl, rfl, hBe⟩ := hrel
              by_cases hlt2 : m < H.length
              · obtain ⟨q, hq⟩ : ∃ q, H[m]? = some q := ⟨_, List.getElem?_eq_getElem hlt2⟩
                have hN5 := HN4.out.more hBe.out
                obtain ⟨bH, rfl, _⟩ := hN5.rH.at (by omega)
                have HROW := Lib.hid (hN5.rH.ptr hq).1
                have hqm := List.mem_of_getElem? hq
                have hqp := HHp.out q hqm
                obtain ⟨n1, n2⟩ := held_ne hqm hqp FRA.out.1 hpa
                replace n1 := beq_eq_false_iff_ne.2 n1
                replace n2 := beq_eq_false_iff_ne.2 n2
                have hm0 : (0 : Int) ≤ (m : Int) := by omega
                have hm1 : (m : Int) < (H.length : Int) := by omega
                obtain ⟨W6, hW6⟩ : ∃ W6, W6 = wr.alloc (.cells (Pt.pV q).toArray 44) := ⟨_, rfl⟩
                have hb6 : Below wr.heap.size wr W6 := by rw [hW6]; exact (Below.refl _ _).alloc (Nat.le_refl _) _
                have hq6 : W6.heap[wr.heap.size]? = some (.cells (Pt.pV q).toArray 44 (0, 0)) := by rw [hW6]; exact heap_alloc_new _ _
                have cA := Pt.cA_pt hq6
                have cB := Pt.cB_pt hq6
                have HB6 := Lib.hid (hBe.out.trans (hb6.mono hBe.out.size))
                have HW6 := Lib.hid hW6
                clear hW6 hb6 hq6 hq hqm hqp hN5
                go_upto_region 34 with (first
                  | (refine wpList_load_mid rfl 44 (.tmp 110) rfl bH (m * 34) rfl (Pt.pV q) _ (by exact HROW.out) Pt.undP rfl (Pt.sizeP q) ?_; simp only [Act.put, List.setIfInBounds_toArray, List.set_cons_succ, List.set_cons_zero])
                  | (refine @wpList_store_row _ _ _ _ _ _ _ rfl 44 (.tmp 15) (.tmp 111) rfl wr.heap.size (Pt.pV q).toArray rfl rfl 44 _ (heap_alloc_new wr _) (Pt.sizeP' _) rfl (Pt.pV_all _) ?_; rw [World.setRow_alloc_new]; simp only [Act.put])
                  | rw [← HW6.out])
                go_wp2_with fail
                go_roundg (H.length - (m + 1))
                case measure => omega
                case rel => exact ⟨m + 1, by omega, by omega, by go_num, HB6⟩
              · obtain rfl : m = H.length := by omega
                have HN5 := Lib.hid (HN4.out.more hBe.out)
                have HQ5 : Hid (wr.heap[w3.heap.size]? = some (.cells (Pt.pV ⟨a, (-1), Pt.zS⟩).toArray 44 (0, 0))) := Lib.hid ((hBe.out.block _ hlt3).trans HQ3.out)
                clear hBe
                go_wp2_with fail
                go_loopg [16] (G.length + D.length) (fun k i wr2 => ∃ m : Nat, m ≤ G.length + D.length ∧ k = G.length + D.length - m ∧ i = .int .i64 m ∧ wr = wr2)
                case atStart => exact ⟨0, by omega, by omega, rfl, rfl⟩
                case round =>
                  obtain ⟨m, hm, rfl, rfl, rfl⟩ := hrel
                  by_cases hlt4 : m < G.length + D.length
                  · have hm0 : (0 : Int) ≤ (m : Int) := by omega
                    have hm1 : (m : Int) < (G.length : Int) + (D.length : Int) := by omega
                    by_cases hlt5 : m < G.length
                    · obtain ⟨x, hx⟩ : ∃ x, G[m]? = some x := ⟨_, List.getElem?_eq_getElem hlt5⟩
                      obtain ⟨bG, rfl, _⟩ := HN5.out.rG.at (by omega)
                      have cx := HN5.out.rG.cellAt hx
                      have hxm := List.mem_of_getElem? hx
                      have hxp := (pos_lt (HNS.out.gn x hxm).1).2.1
                      have n1 : (x == a) = false := beq_eq_false_iff_ne.2 fun e => FRA.out.2.1 (e ▸ hxm)
                      have n2 : (x == -1) = false := beq_eq_false_iff_ne.2 (by omega)
                      have hm2 : (m : Int) < (G.length : Int) := by omega
                      clear hx hxm
                      go_wp2_with fail
                      go_roundg (G.length + D.length - (m + 1))
                      case measure => omega
                      case rel => exact ⟨m + 1, by omega, by omega, by go_num, rfl⟩
                    · obtain ⟨m3, rfl⟩ : ∃ m3, m = G.length + m3 := ⟨m - G.length, by omega⟩
                      obtain ⟨x, hx⟩ : ∃ x, D[m3]? = some x := ⟨_, List.getElem?_eq_getElem (by omega)⟩
                      obtain ⟨bD, rfl, _⟩ := HN5.out.rD.at (by omega)
                      have cx := HN5.out.rD.cellAt hx
                      have hxm := List.mem_of_getElem? hx
                      have hxp := (pos_lt (HNS.out.go x hxm).1).2.1
                      have n1 : (x == a) = false := beq_eq_false_iff_ne.2 fun e => FRA.out.2.2 (e ▸ hxm)
                      have n2 : (x == -1) = false := beq_eq_false_iff_ne.2 (by omega)
                      have hm2 : ¬ ((G.length : Int) + (m3 : Int)) < (G.length : Int) := by omega
                      have hm3 : (m3 : Int) < (D.length : Int) := by omega
                      have hm4 : (0 : Int) ≤ (m3 : Int) := by omega
                      clear hx hxm
                      go_wp2_with fail
                      go_roundg (G.length + D.length - (G.length + m3 + 1))
                      case measure => omega
                      case rel => exact ⟨G.length + m3 + 1, by omega, by omega, by go_num, rfl⟩
                  · have hq5 := HQ5.out
                    have hnl : H.length + [(⟨a, (-1), Pt.zS⟩ : Pt.Pn)].length ≤ 1000000 := by simp; omega
                    have hnb : w.heap.size ≤ (wr.alloc (.cells (Pt.pV ⟨a, (-1), Pt.zS⟩).toArray 44)).heap.size := by have := HN5.out.below.size; simp; omega
                    go_wp2_with (first
                      | (refine @wpList_load_row _ _ _ _ _ _ _ rfl 44 (.tmp 13) rfl w3.heap.size rfl 44 (Pt.pV ⟨a, (-1), Pt.zS⟩).toArray (0, 0) _ (by exact hq5) Pt.undP rfl (Pt.sizeP' _) ?_; simp only [Act.put, List.setIfInBounds_toArray, List.set_cons_succ, List.set_cons_zero])
                      | (refine wpList_sliceP rfl ⟨a, (-1), Pt.zS⟩ (.tmp 171) rfl rfl ?_; simp only [Act.put, List.setIfInBounds_toArray, List.set_cons_succ, List.set_cons_zero])
                      | (at_builtin; go_loud (refine wpList_appP rfl (.tmp 170) (.tmp 172) rfl w.heap.size _ H [⟨a, (-1), Pt.zS⟩] rfl (by exact (HN5.out.more ((Below.refl _ _).alloc (Nat.le_refl _) _)).rH) ⟨wr.heap.size, 0, none⟩ 1 1 rfl rfl (by exact news_one wr _ _) (by exact hnl) (by exact hnb) ?_); intro v5 w5 ho hg hl; have HN6 := Lib.hid ((HN5.out.more ((Below.refl _ _).alloc (Nat.le_refl _) _)).appH ho hg hl); clear ho hg hl))
                    go_meet
                    exact Lib.hid ⟨f2, H ++ [⟨a, (-1), Pt.zS⟩], K, G, D, by rw [sx_append, sx_one]; exact HNS2.out, fun p hp => by
                      rcases List.mem_append.1 hp with h | h
                      · exact HHp.out p h
                      · rw [List.mem_singleton.1 h]; exact HPP.out, by simp; omega, l2, by omega, by omega, HN6.out⟩
        · as_aux_lemma =>
          have HT := Lib.hid (Take_any g 3 20 6 2 ao2 12 cap2 f wr hxx i20 hst)
          clear hxx hst
          have ht := tk_never HNS.out (c := 2) (by omega)
          change (tkE 3 20 6 12 f 2 = 9 ∧ tkF 3 20 6 12 f 2 = f) ∨ ∃ p, Hp p ∧ tkp 3 20 6 12 f 2 = p.A ∧ tkq 3 20 6 12 f 2 = p.B ∧ tkE 3 20 6 12 f 2 = 0 ∧ _ ∧ _ ∧ _ ∧ NvS (tkF 3 20 6 12 f 2) (sx H ++ secs p) (· ∈ K) (· ∈ G) (· ∈ D) at ht
          rcases ht with ⟨e1, e2⟩ | ⟨p, hp, e1, e2, e3, hB1, hB2, hfr, hNS2⟩
          · rw [e1, e2] at HT
            generalize tkp 3 20 6 12 f 2 = a0 at HT
            generalize tkq 3 20 6 12 f 2 = b0 at HT
            clear e1 e2
            go_wp2_with fail
            refine HT.out.mono ?_
            rintro _ w3 ⟨rfl, hT⟩
            dsimp only
            have HR3 := Lib.hid (show AtN w g (j + 1) _ _ _ _ w3 from AtN.next ⟨f, H, K, G, D, HNS.out, HHp.out, l1, l2, l3, l4, HNW.out.turn hT⟩)
            clear hT HT HNW HNS HHp hR cl
            go_wp2_with fail
            go_roundg (ln - (j + 1))
            case measure => omega
            case rel => exact ⟨j + 1, by omega, by omega, by go_num, HR3⟩
          · obtain ⟨a, b, S⟩ := p
            obtain rfl : S = Pt.zS := hp.zero
            dsimp only at e1 e2 hB1 hB2
            have hpa : 0 ≤ a := hp.a
            have hpa2 : a < 4096 := hp.alo
            have hpb : 0 ≤ b := hB2 rfl
            have hpb2 : b < 4096 := hp.blo
            rw [e1, e2, e3] at HT
            generalize tkF 3 20 6 12 f 2 = f2 at HT hNS2
            have hsec : secs ⟨a, b, Pt.zS⟩ = [a, b] := secs_two (by show a ≠ -1; omega) (by show b ≠ -1; omega)
            have HNS2 := Lib.hid hNS2
            have fra := hfr a (by rw [hsec]; simp)
            have HPP := Lib.hid hp
            have frb := hfr b (by rw [hsec]; simp)
            have FRB := Lib.hid frb
            clear frb
            have FRA := Lib.hid fra
            clear fra hfr hsec hNS2 hp e1 e2 e3 hB1 hB2
            go_wp2_with fail
            refine HT.out.mono ?_
            rintro _ w3 ⟨rfl, hT⟩
            dsimp only
            obtain ⟨W3, hW3⟩ : ∃ W3, W3 = w3.alloc (.cells (Pt.pV ⟨a, b, Pt.zS⟩).toArray 44) := ⟨_, rfl⟩
            have hbW3 : Below w3.heap.size w3 W3 := by rw [hW3]; exact (Below.refl _ _).alloc (Nat.le_refl _) _
            have HQ3 : Hid (W3.heap[w3.heap.size]? = some (.cells (Pt.pV ⟨a, b, Pt.zS⟩).toArray 44 (0, 0))) := Lib.hid (by rw [hW3]; exact heap_alloc_new _ _)
            have HN4 := Lib.hid ((HNW.out.turn hT).more hbW3)
            have HW3 := Lib.hid hW3
            have hlt3 : w3.heap.size < W3.heap.size := by rw [hW3]; simp
            clear hT HT HNW hR cl hW3 hbW3 h5
            go_wp2_with (first
              | (refine wpList_buildTo rfl 44 #[(0, .tmp 93), (1, .tmp 94)] rfl _ rfl (Pt.pV ⟨a, b, Pt.zS⟩).toArray (by simp only [List.map_toArray, List.map_cons, List.map_nil]; exact Pt.built2 _ _) ?_; simp only [Act.put, List.setIfInBounds_toArray, List.set_cons_succ, List.set_cons_zero])
              | (refine @wpList_store_row _ _ _ _ _ _ _ rfl 44 (.tmp 13) (.tmp 95) rfl w3.heap.size (Pt.pV ⟨a, b, Pt.zS⟩).toArray rfl rfl 44 _ (heap_alloc_new w3 _) (Pt.sizeP' _) rfl (Pt.pV_all _) ?_; rw [World.setRow_alloc_new]; simp only [Act.put])
              | rw [← HW3.out])
            go_loopg [14] H.length (fun k i wr => ∃ m : Nat, m ≤ H.length ∧ k = H.length - m ∧ i = .int .i64 m ∧ Hid (Below W3.heap.size W3 wr))
            case atStart => exact ⟨0, by omega, by omega, rfl, Lib.hid (Below.refl _ _)⟩
            case round =>
              obtain ⟨m, hm, rfl, rfl, hBe⟩ := hrel
              by_cases hlt2 : m < H.length
              · obtain ⟨q, hq⟩ : ∃ q, H[m]? = some q := ⟨_, List.getElem?_eq_getElem hlt2⟩
                have hN5 := HN4.out.more hBe.out
                obtain ⟨bH, rfl, _⟩ := hN5.rH.at (by omega)
                have HROW := Lib.hid (hN5.rH.ptr hq).1
                have hqm := List.mem_of_getElem? hq
                have hqp := HHp.out q hqm
                obtain ⟨n1, n2⟩ := held_ne hqm hqp FRA.out.1 hpa
                replace n1 := beq_eq_false_iff_ne.2 n1
                replace n2 := beq_eq_false_iff_ne.2 n2
                obtain ⟨n3, n4⟩ := held_ne hqm hqp FRB.out.1 hpb
                replace n3 := beq_eq_false_iff_ne.2 n3
                replace n4 := beq_eq_false_iff_ne.2 n4
                have hm0 : (0 : Int) ≤ (m : Int) := by omega
                have hm1 : (m : Int) < (H.length : Int) := by omega
                obtain ⟨W6, hW6⟩ : ∃ W6, W6 = wr.alloc (.cells (Pt.pV q).toArray 44) := ⟨_, rfl⟩
                have hb6 : Below wr.heap.size wr W6 := by rw [hW6]; exact (Below.refl _ _).alloc (Nat.le_refl _) _
                have hq6 : W6.heap[wr.heap.size]? = some (.cells (Pt.pV q).toArray 44 (0, 0)) := by rw [hW6]; exact heap_alloc_new _ _
                have cA := Pt.cA_pt hq6
                have cB := Pt.cB_pt hq6
                have HB6 := Lib.hid (hBe.out.trans (hb6.mono hBe.out.size))
                have HW6 := Lib.hid hW6
                clear hW6 hb6 hq6 hq hqm hqp hN5
                go_upto_region 34 with (first
                  | (refine wpList_load_mid rfl 44 (.tmp 110) rfl bH (m * 34) rfl (Pt.pV q) _ (by exact HROW.out) Pt.undP rfl (Pt.sizeP q) ?_; simp only [Act.put, List.setIfInBounds_toArray, List.set_cons_succ, List.set_cons_zero])
                  | (refine @wpList_store_row _ _ _ _ _ _ _ rfl 44 (.tmp 15) (.tmp 111) rfl wr.heap.size (Pt.pV q).toArray rfl rfl 44 _ (heap_alloc_new wr _) (Pt.sizeP' _) rfl (Pt.pV_all _) ?_; rw [World.setRow_alloc_new]; simp only [Act.put])
                  | rw [← HW6.out])
                go_wp2_with fail
                go_roundg (H.length - (m + 1))
                case measure => omega
                case rel => exact ⟨m + 1, by omega, by omega, by go_num, HB6⟩
              · obtain rfl : m = H.length := by omega
                have HN5 := Lib.hid (HN4.out.more hBe.out)
                have HQ5 : Hid (wr.heap[w3.heap.size]? = some (.cells (Pt.pV ⟨a, b, Pt.zS⟩).toArray 44 (0, 0))) := Lib.hid ((hBe.out.block _ hlt3).trans HQ3.out)
                clear hBe
                go_wp2_with fail
                go_loopg [16] (G.length + D.length) (fun k i wr2 => ∃ m : Nat, m ≤ G.length + D.length ∧ k = G.length + D.length - m ∧ i = .int .i64 m ∧ wr = wr2)
                case atStart => exact ⟨0, by omega, by omega, rfl, rfl⟩
                case round =>
                  obtain ⟨m, hm, rfl, rfl, rfl⟩ := hrel
                  by_cases hlt4 : m < G.length + D.length
                  · have hm0 : (0 : Int) ≤ (m : Int) := by omega
                    have hm1 : (m : Int) < (G.length : Int) + (D.length : Int) := by omega
                    by_cases hlt5 : m < G.length
                    · obtain ⟨x, hx⟩ : ∃ x, G[m]? = some x := ⟨_, List.getElem?_eq_getElem hlt5⟩
                      obtain ⟨bG, rfl, _⟩ := HN5.out.rG.at (by omega)
                      have cx := HN5.out.rG.cellAt hx
                      have hxm := List.mem_of_getElem? hx
                      have hxp := (pos_lt (HNS.out.gn x hxm).1).2.1
                      have n1 : (x == a) = false := beq_eq_false_iff_ne.2 fun e => FRA.out.2.1 (e ▸ hxm)
                      have n2 : (x == b) = false := beq_eq_false_iff_ne.2 fun e => FRB.out.2.1 (e ▸ hxm)
                      have hm2 : (m : Int) < (G.length : Int) := by omega
                      clear hx hxm
                      go_wp2_with fail
                      go_roundg (G.length + D.length - (m + 1))
                      case measure => omega
                      case rel => exact ⟨m + 1, by omega, by omega, by go_num, rfl⟩
                    · obtain ⟨m3, rfl⟩ : ∃ m3, m = G.length + m3 := ⟨m - G.length, by omega⟩
                      obtain ⟨x, hx⟩ : ∃ x, D[m3]? = some x := ⟨_, List.getElem?_eq_getElem (by omega)⟩
                      obtain ⟨bD, rfl, _⟩ := HN5.out.rD.at (by omega)
                      have cx := HN5.out.rD.cellAt hx
                      have hxm := List.mem_of_getElem? hx
                      have hxp := (pos_lt (HNS.out.go x hxm).1).2.1
                      have n1 : (x == a) = false := beq_eq_false_iff_ne.2 fun e => FRA.out.2.2 (e ▸ hxm)
                      have n2 : (x == b) = false := beq_eq_false_iff_ne.2 fun e => FRB.out.2.2 (e ▸ hxm)
                      have hm2 : ¬ ((G.length : Int) + (m3 : Int)) < (G.length : Int) := by omega
                      have hm3 : (m3 : Int) < (D.length : Int) := by omega
                      have hm4 : (0 : Int) ≤ (m3 : Int) := by omega
                      clear hx hxm
                      go_wp2_with fail
                      go_roundg (G.length + D.length - (G.length + m3 + 1))
                      case measure => omega
                      case rel => exact ⟨G.length + m3 + 1, by omega, by omega, by go_num, rfl⟩
                  · have hq5 := HQ5.out
                    have hnl : H.length + [(⟨a, b, Pt.zS⟩ : Pt.Pn)].length ≤ 1000000 := by simp; omega
                    have hnb : w.heap.size ≤ (wr.alloc (.cells (Pt.pV ⟨a, b, Pt.zS⟩).toArray 44)).heap.size := by have := HN5.out.below.size; simp; omega
                    go_wp2_with (first
                      | (refine @wpList_load_row _ _ _ _ _ _ _ rfl 44 (.tmp 13) rfl w3.heap.size rfl 44 (Pt.pV ⟨a, b, Pt.zS⟩).toArray (0, 0) _ (by exact hq5) Pt.undP rfl (Pt.sizeP' _) ?_; simp only [Act.put, List.setIfInBounds_toArray, List.set_cons_succ, List.set_cons_zero])
                      | (refine wpList_sliceP rfl ⟨a, b, Pt.zS⟩ (.tmp 171) rfl rfl ?_; simp only [Act.put, List.setIfInBounds_toArray, List.set_cons_succ, List.set_cons_zero])
                      | (at_builtin; go_loud (refine wpList_appP rfl (.tmp 170) (.tmp 172) rfl w.heap.size _ H [⟨a, b, Pt.zS⟩] rfl (by exact (HN5.out.more ((Below.refl _ _).alloc (Nat.le_refl _) _)).rH) ⟨wr.heap.size, 0, none⟩ 1 1 rfl rfl (by exact news_one wr _ _) (by exact hnl) (by exact hnb) ?_); intro v5 w5 ho hg hl; have HN6 := Lib.hid ((HN5.out.more ((Below.refl _ _).alloc (Nat.le_refl _) _)).appH ho hg hl); clear ho hg hl))
                    go_meet
                    exact Lib.hid ⟨f2, H ++ [⟨a, b, Pt.zS⟩], K, G, D, by rw [sx_append, sx_one]; exact HNS2.out, fun p hp => by
                      rcases List.mem_append.1 hp with h | h
                      · exact HHp.out p h
                      · rw [List.mem_singleton.1 h]; exact HPP.out, by simp; omega, l2, by omega, by omega, HN6.out⟩
        · skip
          by_cases h0 : H.length = 0
          · as_aux_lemma =>
            obtain rfl : H = [] := List.eq_nil_of_length_eq_zero h0
            have HR3 := Lib.hid hR.out.next
            clear hxx hst h0
            go_wp2_with fail
            go_roundg (ln - (j + 1))
            case measure => omega
            case rel => exact ⟨j + 1, by omega, by omega, by go_num, HR3⟩
          · obtain ⟨bH, rfl, hbH⟩ := HNW.out.rH.at (by omega)
            have hl0 : ¬ (H.length : Int) = 0 := by omega
            have hlp : (0 : Int) < (H.length : Int) := by omega
            clear hxx hst
            go_upto_region 49 with fail
            clear cl h5
            have hq0 := Int.emod_nonneg (x / 5) hl0
            have hq1 := Int.emod_lt_of_pos (x / 5) hlp
            generalize hz : x / 5 % (H.length : Int) = z at hq0 hq1 ⊢
            clear hz
            obtain ⟨k, rfl⟩ : ∃ k : Nat, z = k := ⟨z.toNat, by omega⟩
            have hkl : k < H.length := by omega
            obtain ⟨q, hq⟩ : ∃ q, H[k]? = some q := ⟨_, List.getElem?_eq_getElem hkl⟩
            have hqm := List.mem_of_getElem? hq
            have hqp := HHp.out q hqm
            have HROW := Lib.hid (HNW.out.rH.ptr hq).1
            obtain ⟨W3, hW3⟩ : ∃ W3, W3 = wr.alloc (.cells (Pt.pV q).toArray 44) := ⟨_, rfl⟩
            have hb3 : Below wr.heap.size wr W3 := by rw [hW3]; exact (Below.refl _ _).alloc (Nat.le_refl _) _
            have hq3 : W3.heap[wr.heap.size]? = some (.cells (Pt.pV q).toArray 44 (0, 0)) := by rw [hW3]; exact heap_alloc_new _ _
            have hlt3 : wr.heap.size < W3.heap.size := by rw [hW3]; simp
            have HN3 := Lib.hid (HNW.out.more hb3)
            obtain ⟨ao3, cap3, hx3, hs3, _⟩ := HN3.out.sp
            have hdr := dr_never (p := q) (S1 := sx (H.take k)) (S2 := sx (H.drop (k + 1))) (by rw [← sx_parts hq]; exact HNS.out) hqp
            have HT := Lib.hid (Drop_any g 3 20 6 q ao3 12 cap3 f W3 hx3 i20 hs3 (by have := hqp.a; have := hqp.alo; unfold i64; omega) (by have := hqp.b; have := hqp.blo; unfold i64; omega))
            obtain ⟨hd1, hd2⟩ := hdr
            rw [hd1] at HT
            generalize drF 3 20 6 12 f q = f2 at HT hd2
            obtain ⟨H2, hH2⟩ : ∃ H2, H2 = H.take k ++ H.drop (k + 1) := ⟨_, rfl⟩
            have hH2l : H2.length + 1 = H.length := by rw [hH2, List.length_append, List.length_take, List.length_drop]; omega
            have HM2 : Hid (∀ p, p ∈ H2 → Hp p) := Lib.hid (fun p hp => HHp.out p (by
              rw [hH2] at hp
              rcases List.mem_append.1 hp with h | h
              · exact List.mem_of_mem_take h
              · exact List.mem_of_mem_drop h))
            rw [← sx_append, ← hH2] at hd2
            have HNS2 := Lib.hid hd2
            have HH2 := Lib.hid hH2
            have HW3 := Lib.hid hW3
            have HQ3 := Lib.hid hq3
            have HQP := Lib.hid hqp
            have hlg : g < wr.heap.size := HNW.out.lt
            clear hW3 hb3 hq3 hx3 hs3 hd1 hd2 hH2 hq hqm hqp HNW hR
            go_wp2_with (first
              | (refine wpList_load_mid rfl 44 (.tmp 190) rfl bH (k * 34) rfl (Pt.pV q) _ (by exact HROW.out) Pt.undP rfl (Pt.sizeP q) ?_; simp only [Act.put, List.setIfInBounds_toArray, List.set_cons_succ, List.set_cons_zero])
              | (refine @wpList_store_row _ _ _ _ _ _ _ rfl 44 (.tmp 19) (.tmp 191) rfl wr.heap.size (Pt.pV q).toArray rfl rfl 44 _ (heap_alloc_new wr _) (Pt.sizeP' _) rfl (Pt.pV_all _) ?_; rw [World.setRow_alloc_new]; simp only [Act.put])
              | rw [← HW3.out]
              | (refine @wpList_load_row _ _ _ _ _ _ _ rfl 44 (.tmp 19) rfl wr.heap.size rfl 44 (Pt.pV q).toArray (0, 0) _ (by exact HQ3.out) Pt.undP rfl (Pt.sizeP' _) ?_; simp only [Act.put, List.setIfInBounds_toArray, List.set_cons_succ, List.set_cons_zero]))
            refine HT.out.mono ?_
            rintro _ w4 ⟨rfl, hT⟩
            dsimp only
            have HN4 := Lib.hid (HN3.out.turn hT)
            have HQ4 : Hid (w4.heap[wr.heap.size]? = some (.cells (Pt.pV q).toArray 44 (0, 0))) := Lib.hid ((hT.only.block wr.heap.size hlt3 (by intro e; injection e with e; omega)).trans HQ3.out)
            have hlt4 : wr.heap.size < w4.heap.size := by have := hT.only.size; omega
            clear hT HT HN3 HW3 HQ3 HROW hlt3 hlg hbH
            generalize wr.heap.size = qb at *
            go_upto_region 52 with fail
            have HC := Lib.hid (HN4.out.cells (by omega))
            have hroom := HN4.out.rH.room.1
            have hk0 : (0 : Int) ≤ (k : Int) := by omega
            have hk1 : (k : Int) + 1 ≤ (H.length : Int) := by omega
            have hkc : k ≤ cH := by omega
            have hkn : k + 1 ≤ H.length := by omega
            have hkt : ((k : Int) + 1).toNat = k + 1 := by omega
            have hkp : (0 : Int) ≤ (k : Int) + 1 := by omega
            have hkk : (k : Int) ≤ (k : Int) + 1 := by omega
            have hkw : IntKind.i64.wrap ((k : Int) + 1) = (k : Int) + 1 := by rw [IntKind.wrap_i64]; omega
            have hm1 : (H.take k).length = k := by rw [List.length_take]; omega
            have hm2 : (H.drop (k + 1)).length = H.length - (k + 1) := by rw [List.length_drop]
            have HM := Lib.hid (And.intro hm1 hm2)
            clear hm1 hm2
            obtain ⟨A, hA, HNA⟩ : ∃ A, (if cH = k + 1 then some (⟨bH, 0, none⟩ : Addr) else some ⟨bH, (k + 1) * 34, none⟩) = some A ∧ Hid (∀ w', Below w4.heap.size w4 w' → ∀ j u, (pcs (H.drop (k + 1)))[j]? = some u → w'.cell? (A.add j) = some u) := by
              by_cases hcap : cH = k + 1
              · refine ⟨_, if_pos hcap, Lib.hid fun w' _ j u hu => ?_⟩
                rw [List.drop_eq_nil_of_le (by omega)] at hu
                simp [pcs] at hu
              · refine ⟨_, if_neg hcap, Lib.hid fun w' hw' j u hu => ?_⟩
                rw [Addr.add_mid]
                exact HC.out _ hw' _ u ((pcs_drop hkn j).symm.trans hu)
            go_cut [5] (fun vH wx => Hid (NvW w g f2 H2 K G D vH (.slice aK K.length cK) (.slice aG G.length cG) (.slice aD D.length cD) wx ∧ wx.heap[qb]? = some (.cells (Pt.pV q).toArray 44 (0, 0))))
            case first =>
              go_region_law (first
                | (refine step_appS rfl (.tmp 195) (.tmp 198) rfl w4.heap.size (.slice (some ⟨w4.heap.size, 0, none⟩) 0 0) [] (H.take k) (H.take k) k (by rfl) (by exact own_none _) ⟨bH, 0, none⟩ k cH (by rfl) (by exact HM.out.1.symm) rfl (by exact HM.out.1.symm) (by exact fun j u hu => by rw [Addr.add_mid, Nat.zero_add]; exact HC.out _ (drew_alloc _ _) j u (pcs_take hu)) (by rw [HM.out.1]; simp; omega) (by simp) ?_; intro a6 c6 w6 hO6 hG6; have HB6 := Lib.hid ((drew_alloc w4 (.cells #[] 44)).grown hG6 (by simp) (by intro b hb; injection hb with hb; simp at hb; omega)))
                | (refine step_appS rfl (.tmp 199) (.tmp 203) rfl w4.heap.size (.slice a6 k c6) (H.take k) (H.drop (k + 1)) H2 H2.length (by rfl) (by exact hO6) A (H.length - (k + 1)) (cH - (k + 1)) (by rfl) (by exact HM.out.2.symm) (by exact HH2.out.symm) rfl (by exact HNA.out _ HB6.out) (by rw [HM.out.1, HM.out.2]; omega) (by exact HB6.out.size) ?_; intro a7 c7 w7 hO7 hG7))
              all_goals
                have HB7 := HB6.out.grown hG7 HB6.out.size (fun b hb => (hO6.lt b hb).1)
                have HR7 := Lib.hid (And.intro (HN4.out.newH HB7 hO7) ((HB7.block qb hlt4).trans HQ4.out))
                go_wp2_with fail
                go_meet
                exact HR7
            case rest => as_aux_lemma =>
              clear HC HM hA HNA HN4 HQ4 HH2 hroom hkc hkn hkt hkp hkk hkw hk0 hk1 hlt4
              have HN5 := Lib.hid hcut.out.1
              have HQ5 := Lib.hid hcut.out.2
              obtain ⟨a5, c5, rfl⟩ := hcut.out.1.rH.shape
              clear hcut
              go_wp2_with fail
              go_loopg [7, 20] K.length (fun kk vG i wr2 => ∃ m : Nat, m ≤ K.length ∧ kk = K.length - m ∧ i = .int .i64 m ∧ Hid (∃ G2, NvW w g f2 H2 K G2 D (.slice a5 H2.length c5) (.slice aK K.length cK) vG (.slice aD D.length cD) wr2 ∧ wr2.heap[qb]? = some (.cells (Pt.pV q).toArray 44 (0, 0)) ∧ (∀ x, x ∈ G2 → x ∈ G ∨ (x ∈ K ∧ x ∈ secs q)) ∧ G2.length ≤ G.length + m))
              case atStart => exact ⟨0, by omega, by omega, rfl, Lib.hid ⟨G, HN5.out, HQ5.out, fun x hx => .inl hx, by omega⟩⟩
              case round =>
                clear HN5 HQ5
                obtain ⟨m, hm, rfl, rfl, hI⟩ := hrel
                obtain ⟨G2, hN6, hq6, hG2, hGl⟩ := hI.out
                obtain ⟨aG2, cG2, rfl⟩ := hN6.rG.shape
                have cA := Pt.cA_pt hq6
                have cB := Pt.cB_pt hq6
                have HN6 := Lib.hid hN6
                have HQ6 := Lib.hid hq6
                have HG2 := Lib.hid hG2
                have hA : q.A ≠ -1 := by have := HQP.out.a; omega
                have hqB := HQP.out.b
                clear hq6 hG2 hI
                by_cases hlt2 : m < K.length
                · obtain ⟨y, hy⟩ : ∃ y, K[m]? = some y := ⟨_, List.getElem?_eq_getElem hlt2⟩
                  obtain ⟨bK, rfl, _⟩ := hN6.rK.at (by omega)
                  have cx := hN6.rK.cellAt hy
                  have HXM := Lib.hid (List.mem_of_getElem? hy)
                  have HY := Lib.hid hy
                  have hyp := (pos_lt (HNS2.out.kp y HXM.out).1).2.1
                  have hm0 : (0 : Int) ≤ (m : Int) := by omega
                  have hm1 : (m : Int) < (K.length : Int) := by omega
                  clear hN6 hy
                  by_cases c1 : y = q.A
                  · have HS : Hid (y ∈ secs q) := Lib.hid (by unfold secs sec1; rw [if_neg hA, c1]; simp)
                    have b1 : (y == q.A) = true := beq_iff_eq.2 c1
                    clear c1 hA hqB hyp
                    go_wp2_with fail
                    go_quiet (fail)
                    have hb7 : Below wr.heap.size wr (wr.drewN nq) := ⟨rfl, rfl, rfl, Nat.le_refl _, fun _ _ => rfl⟩
                    generalize wr.drewN nq = w7 at hb7 ⊢
                    have HN7 := Lib.hid (HN6.out.more hb7)
                    have HQ7 := Lib.hid ((hb7.block qb (Array.getElem?_eq_some_iff.1 HQ6.out).1).trans HQ6.out)
                    have cx7 := HN7.out.rK.cellAt HY.out
                    clear hb7 HN6 HQ6 cx cA cB
                    have hGn : G2.length ≤ 1099511627776 := by omega
                    have hGb : w.heap.size ≤ (w7.alloc (.cells #[.int .i64 y] 3)).heap.size := by have := HN7.out.below.size; simp; omega
                    go_wp2_with (first | (at_builtin; refine append_iL rfl (.tmp 232) (.tmp 237) rfl w.heap.size _ G2 rfl (by exact HN7.out.rG.below ((Below.refl _ _).alloc (Nat.le_refl _) _)) w7.heap.size 1 y rfl (World.cell?_alloc_new _ _ _ 0) (by exact hGn) (by exact hGb) ?_; intro v8 w8 ho hg hl; have HN8 := Lib.hid ((HN7.out.more ((Below.refl _ _).alloc (Nat.le_refl _) _)).appG ho hg hl); have HQ8 := Lib.hid (blk_app HQ7.out HN7.out.rG (by decide) hg); clear ho hg hl; obtain ⟨a8, c8, rfl⟩ := HN8.out.rG.shape; rw [List.length_append, List.length_singleton] at HN8))
                    go_roundg (K.length - (m + 1))
                    case measure => omega
                    case rel => exact ⟨m + 1, by omega, by omega, by go_num, Lib.hid ⟨G2 ++ [y], HN8.out, HQ8.out, fun z hz => by
                      rcases List.mem_append.1 hz with h | h
                      · exact HG2.out z h
                      · rw [List.mem_singleton.1 h]; exact .inr ⟨HXM.out, HS.out⟩, by rw [List.length_append, List.length_singleton]; omega⟩⟩
                  · by_cases c2 : y = q.B
                    · have HS : Hid (y ∈ secs q) := Lib.hid (by rw [secs_two hA (by omega), c2]; simp)
                      have b1 : (y == q.A) = false := beq_eq_false_iff_ne.2 c1
                      have b2 : (y == q.B) = true := beq_iff_eq.2 c2
                      have b3 : 0 ≤ q.B := by omega
                      clear c1 c2 hA hqB hyp
                      go_wp2_with fail
                      go_quiet (fail)
                      have hb7 : Below wr.heap.size wr (wr.drewN nq) := ⟨rfl, rfl, rfl, Nat.le_refl _, fun _ _ => rfl⟩
                      generalize wr.drewN nq = w7 at hb7 ⊢
                      have HN7 := Lib.hid (HN6.out.more hb7)
                      have HQ7 := Lib.hid ((hb7.block qb (Array.getElem?_eq_some_iff.1 HQ6.out).1).trans HQ6.out)
                      have cx7 := HN7.out.rK.cellAt HY.out
                      clear hb7 HN6 HQ6 cx cA cB
                      have hGn : G2.length ≤ 1099511627776 := by omega
                      have hGb : w.heap.size ≤ (w7.alloc (.cells #[.int .i64 y] 3)).heap.size := by have := HN7.out.below.size; simp; omega
                      go_wp2_with (first | (at_builtin; refine append_iL rfl (.tmp 232) (.tmp 237) rfl w.heap.size _ G2 rfl (by exact HN7.out.rG.below ((Below.refl _ _).alloc (Nat.le_refl _) _)) w7.heap.size 1 y rfl (World.cell?_alloc_new _ _ _ 0) (by exact hGn) (by exact hGb) ?_; intro v8 w8 ho hg hl; have HN8 := Lib.hid ((HN7.out.more ((Below.refl _ _).alloc (Nat.le_refl _) _)).appG ho hg hl); have HQ8 := Lib.hid (blk_app HQ7.out HN7.out.rG (by decide) hg); clear ho hg hl; obtain ⟨a8, c8, rfl⟩ := HN8.out.rG.shape; rw [List.length_append, List.length_singleton] at HN8))
                      go_roundg (K.length - (m + 1))
                      case measure => omega
                      case rel => exact ⟨m + 1, by omega, by omega, by go_num, Lib.hid ⟨G2 ++ [y], HN8.out, HQ8.out, fun z hz => by
                        rcases List.mem_append.1 hz with h | h
                        · exact HG2.out z h
                        · rw [List.mem_singleton.1 h]; exact .inr ⟨HXM.out, HS.out⟩, by rw [List.length_append, List.length_singleton]; omega⟩⟩
                    · have b1 : (y == q.A) = false := beq_eq_false_iff_ne.2 c1
                      have b2 : (y == q.B) = false := beq_eq_false_iff_ne.2 c2
                      clear c1 c2 hA hqB hyp
                      go_wp2_with fail
                      go_quiet (fail)
                      have hb7 : Below wr.heap.size wr (wr.drewN nq) := ⟨rfl, rfl, rfl, Nat.le_refl _, fun _ _ => rfl⟩
                      generalize wr.drewN nq = w7 at hb7 ⊢
                      have HN7 := Lib.hid (HN6.out.more hb7)
                      have HQ7 := Lib.hid ((hb7.block qb (Array.getElem?_eq_some_iff.1 HQ6.out).1).trans HQ6.out)
                      have cx7 := HN7.out.rK.cellAt HY.out
                      clear hb7 HN6 HQ6 cx cA cB
                      have HI7 := Lib.hid (show _ ∧ _ ∧ _ ∧ G2.length ≤ G.length + (m + 1) from ⟨HN7.out, HQ7.out, HG2.out, by omega⟩)
                      clear HN7 HQ7 HG2 HXM HY b1 b2
                      go_wp2_with fail
                      go_roundg (K.length - (m + 1))
                      case measure => omega
                      case rel => exact ⟨m + 1, by omega, by omega, by go_num, Lib.hid ⟨G2, HI7.out⟩⟩
                · obtain rfl : m = K.length := by omega
                  clear hN6
                  have hDl : D.length ≤ 1099511627776 := by omega
                  have hDl2 : (D ++ [q.A]).length ≤ 1099511627776 := by rw [List.length_append, List.length_singleton]; omega
                  have hDb : w.heap.size ≤ (wr.alloc (.cells #[.int .i64 q.A] 3)).heap.size := by have := HN6.out.below.size; simp; omega
                  go_upto_region 59 with (first | (at_builtin; refine append_iL rfl (.tmp 239) (.tmp 242) rfl w.heap.size _ D rfl (by exact HN6.out.rD.below ((Below.refl _ _).alloc (Nat.le_refl _) _)) wr.heap.size 1 q.A rfl (World.cell?_alloc_new _ _ _ 0) (by exact hDl) (by exact hDb) ?_; intro v8 w8 ho hg hl; have HN8 := Lib.hid ((HN6.out.more ((Below.refl _ _).alloc (Nat.le_refl _) _)).appD ho hg hl); have HQ8 := Lib.hid (blk_app HQ6.out HN6.out.rD (by decide) hg); clear ho hg hl; obtain ⟨a8, c8, rfl⟩ := HN8.out.rD.shape; rw [List.length_append, List.length_singleton] at HN8))
                  clear cA cB
                  have cB := Pt.cB_pt HQ8.out
                  by_cases hB : q.B = -1
                  · have HSE := Lib.hid (secs_one hA hB)
                    rw [hB] at cB
                    have HR9 := Lib.hid (show AtN w g (j + 1) _ _ _ _ w8 from ⟨f2, H2, K, G2, D ++ [q.A], HNS2.out.weak (fun _ h => h) HG2.out (fun x hx => by rw [HSE.out]; exact List.mem_append.1 hx), HM2.out, by omega, l2, by omega, by rw [List.length_append, List.length_singleton]; omega, HN8.out⟩)
                    clear HN6 HQ6 HG2 HN8 HQ8 HNS2 HM2 HSE hA hqB hB hDl hDl2 hDb
                    go_wp2_with fail
                    go_meet
                    exact HR9
                  · have HSE := Lib.hid (secs_two hA hB)
                    have hB0 : 0 ≤ q.B := by omega
                    have hDb2 : w.heap.size ≤ (w8.alloc (.cells #[.int .i64 q.B] 3)).heap.size := by have := HN8.out.below.size; simp; omega
                    clear hB hqB hA hDb hDl
                    go_wp2_with (first | (at_builtin; refine append_iL rfl (.tmp 247) (.tmp 250) rfl w.heap.size _ (D ++ [q.A]) rfl (by exact HN8.out.rD.below ((Below.refl _ _).alloc (Nat.le_refl _) _)) w8.heap.size 1 q.B rfl (World.cell?_alloc_new _ _ _ 0) (by exact hDl2) (by exact hDb2) ?_; intro v9 w9 ho hg hl; have HN9 := Lib.hid ((HN8.out.more ((Below.refl _ _).alloc (Nat.le_refl _) _)).appD ho hg hl); clear ho hg hl; obtain ⟨a9, c9, rfl⟩ := HN9.out.rD.shape; rw [List.length_append, List.length_append, List.length_singleton, List.length_singleton] at HN9))
                    have HR9 := Lib.hid (show AtN w g (j + 1) _ _ _ _ w9 from ⟨f2, H2, K, G2, D ++ [q.A] ++ [q.B], HNS2.out.weak (fun _ h => h) HG2.out (fun x hx => by rw [HSE.out]; rw [List.append_assoc] at hx; exact List.mem_append.1 hx), HM2.out, by omega, l2, by omega, by rw [List.length_append, List.length_append, List.length_singleton, List.length_singleton]; omega, HN9.out⟩)
                    go_meet
                    exact HR9
        · as_aux_lemma =>
          have HT := Lib.hid (Sweep_any g 3 20 6 ao2 12 cap2 f wr hxx i20 hst)
          rw [HNS.out.form, show okE true = 0 from rfl] at HT
          clear hxx hst
          go_wp2_with fail
          refine HT.out.mono ?_
          rintro _ w3 ⟨rfl, hT⟩
          dsimp only
          have HR3 := Lib.hid (show AtN w g (j + 1) _ _ _ _ w3 from AtN.next ⟨_, H, K, G, [], HNS.out.swept.weak (fun _ h => h) (fun _ h => h) (fun _ h => by simp at h), HHp.out, l1, l2, l3, by simp, (HNW.out.turn hT).nilD⟩)
          clear hT HT HNW HNS HHp hR cl
          go_wp2_with fail
          go_meet
          exact HR3
        · as_aux_lemma =>
          have HT := Lib.hid (Settle_any g 3 20 6 ao2 12 cap2 f wr hxx i20 hst)
          rw [HNS.out.form, show okE true = 0 from rfl] at HT
          clear hxx hst
          go_wp2_with fail
          refine HT.out.mono ?_
          rintro _ w3 ⟨rfl, hT⟩
          dsimp only
          have HN3 := Lib.hid (HNW.out.turn hT).nil3
          have HNS3 := Lib.hid HNS.out.settled
          generalize swF seN 3 20 6 12 f = f3 at *
          clear hT HT HNW HNS hR cl h5
          go_wp2_with fail
          go_loopg [6, 21] H.length (fun k vK i wr => ∃ m : Nat, m ≤ H.length ∧ k = H.length - m ∧ i = .int .i64 m ∧ Hid (NvW w g f3 H (sx (H.take m)) [] [] (.slice aH H.length cH) vK (.slice none 0 0) (.slice none 0 0) wr))
          case atStart => exact ⟨0, by omega, by omega, rfl, HN3⟩
          case round =>
            clear HN3
            obtain ⟨m, hm, rfl, rfl, hN⟩ := hrel
            by_cases hlt2 : m < H.length
            · obtain ⟨q, hq⟩ : ∃ q, H[m]? = some q := ⟨_, List.getElem?_eq_getElem hlt2⟩
              obtain ⟨bH, rfl, hbH⟩ := hN.out.rH.at (by omega)
              obtain ⟨_, c0, _⟩ := hN.out.rH.ptr hq
              obtain ⟨a3, c3, rfl⟩ := hN.out.rK.shape
              have hqp := HHp.out q (List.mem_of_getElem? hq)
              have hNl' : (sx (H.take m)).length ≤ 600 := by have := sx_len (H.take m); rw [List.length_take] at this; omega
              have hNl : (sx (H.take m)).length ≤ 1099511627776 := by omega
              have hNb : w.heap.size ≤ (wr.alloc (.cells #[.int .i64 q.A] 3)).heap.size := by have := hN.out.below.size; simp; omega
              have HX := Lib.hid (sx_step hq)
              have HQ := Lib.hid hq
              have hA : q.A ≠ -1 := by have := hqp.a; omega
              have hm0 : (0 : Int) ≤ (m : Int) := by omega
              have hm1 : (m : Int) < (H.length : Int) := by omega
              clear hq
              go_upto_region 21 with (first | (at_builtin; refine append_iL rfl (.tmp 54) (.tmp 60) rfl w.heap.size _ (sx (H.take m)) rfl (by exact hN.out.rK.below ((Below.refl _ _).alloc (Nat.le_refl _) _)) wr.heap.size 1 q.A rfl (World.cell?_alloc_new _ _ _ 0) (by exact hNl) (by exact hNb) ?_; intro v4 w4 ho hg hl; have HN4 := Lib.hid ((hN.out.more ((Below.refl _ _).alloc (Nat.le_refl _) _)).appK ho hg hl); clear ho hg hl; obtain ⟨a4, c4, rfl⟩ := HN4.out.rK.shape; rw [List.length_append, List.length_singleton] at HN4))
              obtain ⟨_, _, c1⟩ := HN4.out.rH.ptr HQ.out
              by_cases hB : q.B = -1
              · have E : Hid (sx (H.take (m + 1)) = sx (H.take m) ++ [q.A]) := Lib.hid (by rw [HX.out, secs_one hA hB])
                have HN5 := HN4
                rw [← E.out] at HN5
                rw [hB] at c1
                clear HX hqp hA hB HN4 hN hNl hNb c0
                go_wp2_with fail
                go_roundg (H.length - (m + 1))
                case measure => omega
                case rel => exact ⟨m + 1, by omega, by omega, by go_num, HN5⟩
              · have E : Hid (sx (H.take (m + 1)) = sx (H.take m) ++ [q.A] ++ [q.B]) := Lib.hid (by rw [HX.out, secs_two hA hB]; simp)
                have hB0 : 0 ≤ q.B := by have := hqp.b; omega
                have hNl2 : (sx (H.take m) ++ [q.A]).length ≤ 1099511627776 := by rw [List.length_append, List.length_singleton]; omega
                have hNb2 : w.heap.size ≤ (w4.alloc (.cells #[.int .i64 q.B] 3)).heap.size := by have := HN4.out.below.size; simp; omega
                clear HX hqp hA hB hN hNl hNb c0
                go_wp2_with (first | (at_builtin; refine append_iL rfl (.tmp 68) (.tmp 74) rfl w.heap.size _ (sx (H.take m) ++ [q.A]) rfl (by exact HN4.out.rK.below ((Below.refl _ _).alloc (Nat.le_refl _) _)) w4.heap.size 1 q.B rfl (World.cell?_alloc_new _ _ _ 0) (by exact hNl2) (by exact hNb2) ?_; intro v5 w5 ho hg hl; have HN5 := Lib.hid ((HN4.out.more ((Below.refl _ _).alloc (Nat.le_refl _) _)).appK ho hg hl); clear ho hg hl; obtain ⟨a5, c5, rfl⟩ := HN5.out.rK.shape; rw [List.length_append, List.length_append, List.length_singleton, List.length_singleton] at HN5))
                rw [← E.out] at HN5
                go_roundg (H.length - (m + 1))
                case measure => omega
                case rel => exact ⟨m + 1, by omega, by omega, by go_num, HN5⟩
            · obtain rfl : m = H.length := by omega
              rw [List.take_length] at hN
              have HR3 := Lib.hid (show AtN w g (j + 1) _ _ _ _ _ from ⟨f3, H, sx H, [], [], HNS3.out.weak (fun _ h => h) (fun _ h => by simp at h) (fun _ h => by simp at h), HHp.out, by omega, by have := sx_len H; omega, by simp, by simp, hN.out⟩)
              clear hN
              go_wp2_with fail
              go_meet
              exact HR3
      case rest => as_aux_lemma =>
        obtain ⟨f, H, K, G, D, hNS, hHp, l1, l2, l3, l4, hNW⟩ := hcut.out
        have HRR := hcut
        clear hcut
        obtain ⟨aH, cH, rfl⟩ := hNW.rH.shape
        obtain ⟨ao2, cap2, hxx, hst, _⟩ := hNW.sp
        have HU := Lib.hid (Used_any 3 20 6 ao2 12 cap2 f wc i20 hst)
        rw [hNS.used] at HU
        have HHp := Lib.hid hHp
        have HRO := Lib.hid hNW.rH
        have d0 := hxx.c0
        have d1 := hxx.c1
        have d2 := hxx.c2
        have d3 := hxx.c3
        have hl12 := hNS.len
        have l300 : j + 1 ≤ 300 := by omega
        clear hNS hHp hNW hst hxx cl hR
        go_wp2_with fail
        go_loopg [22, 23] H.length (fun k n i wr => ∃ m : Nat, m ≤ H.length ∧ k = H.length - m ∧ i = .int .i64 m ∧ n = .int .i64 ((sx (H.take m)).length : Nat) ∧ wc = wr)
        case atStart => exact ⟨0, by omega, by omega, rfl, rfl, rfl⟩
        case round =>
          obtain ⟨m, hm, rfl, rfl, rfl, rfl⟩ := hrel
          by_cases hlt2 : m < H.length
          · obtain ⟨q, hq⟩ : ∃ q, H[m]? = some q := ⟨_, List.getElem?_eq_getElem hlt2⟩
            obtain ⟨bH, rfl, _⟩ := HRO.out.at (by omega)
            obtain ⟨_, _, c1⟩ := HRO.out.ptr hq
            have hqp := HHp.out q (List.mem_of_getElem? hq)
            have hN : (sx (H.take m)).length ≤ 600 := by have := sx_len (H.take m); rw [List.length_take] at this; omega
            have HX := Lib.hid (sx_step hq)
            have hA : q.A ≠ -1 := by have := hqp.a; omega
            have hm0 : (0 : Int) ≤ (m : Int) := by omega
            have hm1 : (m : Int) < (H.length : Int) := by omega
            by_cases hB : q.B = -1
            · have E : Hid ((sx (H.take (m + 1))).length = (sx (H.take m)).length + 1) := Lib.hid (by rw [HX.out, secs_one hA hB]; simp)
              rw [hB] at c1
              generalize (sx (H.take m)).length = N at *
              clear HX hq hqp hA hB
              go_wp2_with fail
              go_roundg (H.length - (m + 1))
              case measure => omega
              case rel => exact ⟨m + 1, by omega, by omega, by go_num, by rw [E.out]; go_num, rfl⟩
            · have E : Hid ((sx (H.take (m + 1))).length = (sx (H.take m)).length + 2) := Lib.hid (by rw [HX.out, secs_two hA hB]; simp)
              have hB0 : 0 ≤ q.B := by have := hqp.b; omega
              generalize q.B = b at *
              generalize (sx (H.take m)).length = N at *
              clear HX hq hqp hA hB
              go_wp2_with fail
              go_roundg (H.length - (m + 1))
              case measure => omega
              case rel => exact ⟨m + 1, by omega, by omega, by go_num, by rw [E.out]; go_num, rfl⟩
          · obtain rfl : m = H.length := by omega
            rw [List.take_length]
            generalize (sx H).length = N at *
            go_wp2_with fail
            refine HU.out.mono ?_
            rintro _ w4 ⟨rfl, hb4⟩
            dsimp only
            have HR4 := Lib.hid (HRR.out.more hb4)
            clear HRR HU hb4 HRO d0 d1 d2 d3
            go_wp2_with fail
            go_roundg (ln - (j + 1))
            case measure => omega
            case rel => exact ⟨j + 1, by omega, by omega, by go_num, HR4⟩
    · obtain rfl : j = ln := by omega
      have HB := Lib.hid hR.out.below
      clear hR
      go_wp2_with fail
      go_ret
      exact ⟨rfl, HB.out⟩
end
end Sp
end Go.Proofs.Ytdbmdocmnhgbpaa
