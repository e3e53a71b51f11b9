/- With and Without, of the code. -/
import Derived.Test.YtdilbicdaljfkaaEnJ
import Derived.Deep.RegionHeld3
namespace Go.Proofs.Ytdilbicdaljfkaa
set_option maxRecDepth 20000
namespace En
open Go.RowKit Sha

set_option maxHeartbeats 2000000 in
theorem joined_any (L : List (List E)) (g cap : Nat) (w : World) (h : Pts w g L) (hn : L.flatten.length ≤ 1000) (hL : L.length ≤ 1000) (hs : ∀ x ∈ L.flatten, x.1.length ≤ 140737488355328) :
    Calls Try.prog 36 #[.slice (some ⟨g, 0, none⟩) L.length cap] w fun e w' => ∃ v, e = .returned v ∧ OwnE w' w.heap.size v L.flatten ∧ Below w.heap.size w w' := by
  have HC := Lib.hid (concat_any L g cap w h hn hL)
  clear h hL
  generalize L.flatten = F at HC hn hs ⊢
  go_enter Try.func36, Try.ntmps36
  go_wp2_with (go_at_call 42; refine HC.out.mono ?_; rintro _ W ⟨v, rfl, hO, hbW⟩; obtain ⟨ao, cp, rfl, hl, hao⟩ := hO.slice; have HO := Lib.hid hO; clear hO hl)
  go_loopw [10] (fun i wr => ∃ k : Nat, k ≤ F.length ∧ i = .int .i64 k ∧ Hid (OwnE wr w.heap.size (.slice ao F.length cp) F) ∧ Below w.heap.size w wr) (fun i _ => F.length - (intOf i).toNat)
  case atStart => exact ⟨0, Nat.zero_le _, rfl, HO, hbW⟩
  case round =>
    obtain ⟨k, hk, rfl, HO2, hb⟩ := hrel
    have hbs := hb.size
    clear HO HC
    by_cases hlt : k < F.length
    · obtain ⟨ao', cp', e, hl, _⟩ := HO2.out.slice
      injection e with e1 _ e2
      subst e1 e2
      obtain ⟨b, off, rfl, hbb, c0, c1⟩ := hl.get hlt
      obtain ⟨hb1, rfl, _⟩ := hao _ rfl
      have HS := Lib.hid (ecs_set0 (F[k].1) (List.getElem?_eq_getElem hlt))
      have hxl := hs _ (List.getElem_mem hlt)
      have HF : Hid (F.set k (F[k].1, F[k].2) = F) := Lib.hid (by rw [show ((F[k].1, F[k].2) : E) = F[k] from rfl, List.set_getElem_self])
      rw [HF.out] at HS
      rw [Nat.zero_add] at c0 c1
      clear hl hs HF
      generalize F[k] = x at c0 c1 HS hxl
      obtain ⟨x, n⟩ := x
      simp only at c0 c1 HS hxl hb1
      have HCL := Lib.hid (fun W => clone_any x W hxl)
      have hO := HO2.out
      clear HO2
      go_wp2_with (go_at_call 34; refine (HCL.out _).mono ?_; rintro _ w2 ⟨rfl, hb2⟩
                   simp only [World.size_alloc] at hb2
                   have d0 : w2.cell? ⟨b, k * 2, none⟩ = some (.string ⟨x.toArray⟩) := by
                     rw [hb2.cell (p := ⟨b, k * 2, none⟩) (show b < wr.heap.size + 1 by omega), World.cell?_alloc_lt _ _ _ (show b < wr.heap.size by omega)]; exact c0
                   have hO2 := (hO.alloc _).below hb2 (by simp)
                   have f0 := World.ownsRow.frozenAt hO2 (k * 2)
                   have hB2 := Lib.hid ((hb.alloc (by omega) _).trans (hb2.mono (show w.heap.size ≤ wr.heap.size + 1 by omega)))
                   have HO3 := Lib.hid (own_set hO2 HS.out rfl)
                   clear hO hO2 HS hb2)
      go_roundw
      case rel => exact ⟨k + 1, by omega, by go_num, HO3, set_below hB2.out hb1 _⟩
      case measure => simp [intOf]; omega
    · obtain rfl : k = F.length := by omega
      go_wp2
      go_ret
      exact ⟨_, rfl, HO2.out, hb⟩

theorem lies_take {w : World} {B p cap : Nat} {ao : Option Addr} {l : List E} (h : LiesE w B ao cap l) (hp : p ≤ l.length) : LiesE w B ao cap (l.take p) :=
  ⟨Nat.le_trans (by rw [List.length_take]; omega) h.room, h.nil, fun hn => by
    obtain ⟨b, off, e, hb, hc⟩ := h.cells (by rintro rfl; simp at hn)
    refine ⟨b, off, e, hb, fun i x hi => hc i x ?_⟩
    rw [List.getElem?_take] at hi
    split at hi
    · exact hi
    · cases hi⟩
theorem lies_drop {w : World} {B p cap : Nat} {ao : Option Addr} {l : List E} (h : LiesE w B ao cap l) (hc : ¬ cap = p) : LiesE w B (ao.map fun x => x.add (p * 2)) (cap - p) (l.drop p) := by
  refine ⟨by rw [List.length_drop]; have := h.room; omega, ?_, fun hn => ?_⟩
  · intro e
    cases ao with
    | none => have := h.nil rfl; omega
    | some a => cases e
  · obtain ⟨b, off, e, hb, hcc⟩ := h.cells (by rintro rfl; simp at hn)
    refine ⟨b, off + p * 2, by rw [e]; simp [Addr.add], hb, fun i x hi => ?_⟩
    rw [List.getElem?_drop] at hi
    have := hcc _ x hi
    rw [show off + p * 2 + i * 2 = off + (p + i) * 2 by omega]
    exact this
theorem pts_three {w : World} {g : Nat} {l1 l2 l3 : List E} {a1 a2 a3 : Option Addr} {n1 n2 n3 c1 c2 c3 : Nat} (hg : w.heap.size = g) (e1 : n1 = l1.length) (e2 : n2 = l2.length) (e3 : n3 = l3.length) (h1 : LiesE w w.heap.size a1 c1 l1) (h2 : LiesE w w.heap.size a2 c2 l2) (h3 : LiesE w w.heap.size a3 c3 l3) :
    Pts (w.alloc (.cells #[.slice a1 n1 c1, .slice a2 n2 c2, .slice a3 n3 c3] 22)) g [l1, l2, l3] := by
  subst hg e1 e2 e3
  have hb : Below w.heap.size w (w.alloc (.cells #[.slice a1 l1.length c1, .slice a2 l2.length c2, .slice a3 l3.length c3] 22)) := (Below.refl _ _).alloc (Nat.le_refl _) _
  refine ⟨by simp, fun i x hi => ?_⟩
  have hc : ∀ i, (w.alloc (.cells #[.slice a1 l1.length c1, .slice a2 l2.length c2, .slice a3 l3.length c3] 22)).cell? ⟨w.heap.size, i, none⟩ = (#[.slice a1 l1.length c1, .slice a2 l2.length c2, .slice a3 l3.length c3] : Array Value)[i]? := fun i => cell_of_row _ _ _ _ _ _ (heap_alloc_new w _)
  match i, hi with
  | 0, hi => cases hi; exact ⟨a1, c1, hc 0, h1.to hb hb.size⟩
  | 1, hi => cases hi; exact ⟨a2, c2, hc 1, h2.to hb hb.size⟩
  | 2, hi => cases hi; exact ⟨a3, c3, hc 2, h3.to hb hb.size⟩
theorem Pts.drew {w : World} {g : Nat} {L : List (List E)} (h : Pts w g L) : Pts w.drew g L :=
  ⟨h.1, fun i x hi => by
    obtain ⟨ao, cap, a, b⟩ := h.2 i x hi
    exact ⟨ao, cap, a, b.below (below_drewN (Below.refl w.heap.size w) 1)⟩⟩
theorem pts_two {w : World} {g : Nat} {l1 l2 : List E} {a1 a2 : Option Addr} {n1 n2 c1 c2 : Nat} (hg : w.heap.size = g) (e1 : n1 = l1.length) (e2 : n2 = l2.length) (h1 : LiesE w w.heap.size a1 c1 l1) (h2 : LiesE w w.heap.size a2 c2 l2) :
    Pts (w.alloc (.cells #[.slice a1 n1 c1, .slice a2 n2 c2] 22)) g [l1, l2] := by
  subst hg e1 e2
  have hb : Below w.heap.size w (w.alloc (.cells #[.slice a1 l1.length c1, .slice a2 l2.length c2] 22)) := (Below.refl _ _).alloc (Nat.le_refl _) _
  refine ⟨by simp, fun i x hi => ?_⟩
  have hc : ∀ i, (w.alloc (.cells #[.slice a1 l1.length c1, .slice a2 l2.length c2] 22)).cell? ⟨w.heap.size, i, none⟩ = (#[.slice a1 l1.length c1, .slice a2 l2.length c2] : Array Value)[i]? := fun i => cell_of_row _ _ _ _ _ _ (heap_alloc_new w _)
  match i, hi with
  | 0, hi => cases hi; exact ⟨a1, c1, hc 0, h1.to hb hb.size⟩
  | 1, hi => cases hi; exact ⟨a2, c2, hc 1, h2.to hb hb.size⟩
theorem lies_drop0 {w : World} {B p cap : Nat} {ao : Option Addr} {l : List E} (h : LiesE w B ao cap l) (hp : p ≤ l.length) (hc : cap = p) : LiesE w B ao (cap - p) (l.drop p) := by
  have hr := h.room
  have e : l.drop p = [] := List.eq_nil_of_length_eq_zero (by rw [List.length_drop]; omega)
  rw [e]
  exact ⟨Nat.zero_le _, fun e => by have := h.nil e; omega, fun h => absurd rfl h⟩

set_option maxHeartbeats 4000000 in
theorem with_any (l : List E) (x : E) (ao : Option Addr) (cap : Nat) (w : World) (h : LiesE w w.heap.size ao cap l) :
    Calls Try.prog 24 #[.slice ao l.length cap, .agg (eV x).toArray] w fun e w' => ∃ v, e = .returned (.tuple #[v, .int .i64 (wE l x)]) ∧ OwnE w' w.heap.size v (wV l x) ∧ Below w.heap.size w w' := by
  have HW : Hid (wE l x = if rt l = false then 1 else if valid x.1 = false then 12 else if num x.2 = false then 1 else if has l x.1 = true then 5 else if l.length = 40 then 14 else 0) := Lib.hid rfl
  have HV : Hid (wV l x = if wE l x = 0 then ins l x else []) := Lib.hid rfl
  generalize wV l x = V at HV ⊢
  generalize wE l x = c at HW HV ⊢
  obtain ⟨x, n⟩ := x
  simp only at HW
  show Calls Try.prog 24 #[.slice ao l.length cap, .agg #[.string ⟨x.toArray⟩, .int .i64 n]] w _
  obtain ⟨W, hW⟩ : ∃ W, W = w.alloc (.cells #[.string ⟨x.toArray⟩, .int .i64 n] 44) := ⟨_, rfl⟩
  have hb0 : Below w.heap.size w W := by rw [hW]; exact (Below.refl _ _).alloc (Nat.le_refl _) _
  have hs0 : W.heap.size = w.heap.size + 1 := by rw [hW]; simp
  have x0 : W.cell? ⟨w.heap.size, 0, none⟩ = some (.string ⟨x.toArray⟩) := by rw [hW, cell_of_row _ _ _ _ _ _ (heap_alloc_new w _)]; rfl
  have x1 : W.cell? ⟨w.heap.size, 1, none⟩ = some (.int .i64 n) := by rw [hW, cell_of_row _ _ _ _ _ _ (heap_alloc_new w _)]; rfl
  have hl0 := h.to hb0 (show w.heap.size ≤ W.heap.size by omega)
  have HX0 := Lib.hid (fun W2 (hb : Below W.heap.size W W2) => (hb.cell (p := ⟨w.heap.size, 0, none⟩) (show w.heap.size < W.heap.size by omega)).trans x0)
  have HX1 := Lib.hid (fun W2 (hb : Below W.heap.size W W2) => (hb.cell (p := ⟨w.heap.size, 1, none⟩) (show w.heap.size < W.heap.size by omega)).trans x1)
  have HR := Lib.hid (right_any l ao cap W hl0)
  have HL := Lib.hid (fun W2 (hb : Below W.heap.size W W2) => hl0.to hb hb.size)
  have HB := Lib.hid (fun W2 (hb : Below W.heap.size W W2) => hb0.trans (hb.mono (show w.heap.size ≤ W.heap.size by omega)))
  have HVA := Lib.hid (fun W => (valid_any x W).mono fun e w' (h : _ ∧ _) => And.intro h.1 h.2.symm)
  have HNU := Lib.hid (fun W => numbered_any n W)
  clear h hb0 hl0 x0 x1
  go_enter Try.func24, Try.ntmps24
  go_wp2_with fail
  rw [← hW]
  refine HR.out.mono ?_
  rintro _ W1 ⟨rfl, hb1⟩
  have y0 := HX0.out W1 hb1
  have y1 := HX1.out W1 hb1
  clear HR hW
  by_cases h1 : rt l = true
  · have HPL := Lib.hid (place_any l x ao cap W1 (HL.out W1 hb1) h1)
    have hasc : asc none l = true := by simp only [rt, Bool.and_eq_true] at h1; exact h1.2
    rw [has_at hasc] at HPL
    have hpl := pos_le l x
    have hle := rt_len h1
    rw [h1]
    by_cases h2 : valid x = true
    · rw [h2] at HVA
      by_cases h3 : num n = true
      · rw [h3] at HNU
        by_cases h4 : has l x = true
        · rw [h4] at HPL
          have HH := Lib.hid (And.intro h1 (And.intro h2 (And.intro h3 h4)))
          clear h1 h2 h3 h4
          go_wp2_with (first
            | (go_at_call 28; refine (HVA.out _).mono ?_; rintro _ _ ⟨rfl, rfl⟩)
            | (go_at_call 29; refine (HNU.out _).mono ?_; rintro _ _ ⟨rfl, rfl⟩)
            | (go_at_call 35; refine HPL.out.mono ?_; rintro _ W2 ⟨rfl, hb2⟩; have hB2 := hb1.trans (hb2.mono hb1.size))
            | go_in)
          obtain ⟨h1, h2, h3, h4⟩ := HH.out
          refine bodyPost_ret (results_2 rfl rfl rfl) rfl ?_
          rw [show c = 5 from by rw [HW.out]; simp [h1, h2, h3, h4]] at HV ⊢
          rw [show V = [] from HV.out]
          exact ⟨_, rfl, OwnE.nil _ _, HB.out _ hB2⟩
        · have h4' : has l x = false := by simpa using h4
          rw [h4'] at HPL
          by_cases h5 : l.length = 40
          · have HH := Lib.hid (And.intro h1 (And.intro h2 (And.intro h3 h4')))
            rw [h5] at HPL
            clear h1 h2 h3 h4 h4'
            go_wp2_with (first
              | (go_at_call 28; refine (HVA.out _).mono ?_; rintro _ _ ⟨rfl, rfl⟩)
              | (go_at_call 29; refine (HNU.out _).mono ?_; rintro _ _ ⟨rfl, rfl⟩)
              | (go_at_call 35; refine HPL.out.mono ?_; rintro _ W2 ⟨rfl, hb2⟩; have hB2 := hb1.trans (hb2.mono hb1.size))
              | go_in)
            obtain ⟨h1, h2, h3, h4⟩ := HH.out
            refine bodyPost_ret (results_2 rfl rfl rfl) rfl ?_
            rw [show c = 14 from by rw [HW.out]; simp [h1, h2, h3, h4, h5]] at HV ⊢
            rw [show V = [] from HV.out]
            exact ⟨_, rfl, OwnE.nil _ _, HB.out _ hB2⟩
          · have HC0 : Hid (c = 0 ∧ V = ins l (x, n)) := Lib.hid (by
              have e : c = 0 := by rw [HW.out]; simp [h1, h2, h3, h4', h5]
              exact ⟨e, by rw [HV.out, if_pos e]⟩)
            have h5' : (((l.length : Nat) : Int) == 40) = false := by simp; omega
            have HIN : Hid (ins l (x, n) = ([l.take (pos l x), [(x, n)], l.drop (pos l x)] : List (List E)).flatten) := Lib.hid (by simp [ins])
            have HS24 : Hid (∀ y ∈ ins l (x, n), y.1.length ≤ 140737488355328) := Lib.hid fun y hy => by
              have hv : valid y.1 = true := by
                simp only [ins, List.mem_append, List.mem_cons] at hy
                rcases hy with hy | rfl | hy
                · exact (rt_mem h1 y (List.mem_of_mem_take hy)).1
                · exact h2
                · exact (rt_mem h1 y (List.mem_of_mem_drop hy)).1
              have := valid_len hv
              omega
            have HLEN := Lib.hid (ins_len l (x, n))
            clear h1 h2 h3 h4 h4' h5 HW HV hasc
            generalize ins l (x, n) = I at HC0 HIN HS24 HLEN
            generalize pos l x = p at hpl HPL HIN
            by_cases hcp : cap = p
            · subst hcp
              go_wp2_with (first
                | (go_at_call 28; refine (HVA.out _).mono ?_; rintro _ _ ⟨rfl, rfl⟩)
                | (go_at_call 29; refine (HNU.out _).mono ?_; rintro _ _ ⟨rfl, rfl⟩)
                | (go_at_call 35; refine HPL.out.mono ?_; rintro _ W2 ⟨rfl, hb2⟩; have hB2 := hb1.trans (hb2.mono hb1.size); have z0 := HX0.out W2 hB2; have z1 := HX1.out W2 hB2; have hl2 := HL.out W2 hB2;   have hpc2 : (cap : Int) ≤ (l.length : Int) := (by omega); have hB3 := HB.out W2 hB2; have hws := hB2.size; clear hb2 hb1 y0 y1)
                | go_in)
              have hbA : Below W2.heap.size W2 (W2.alloc (.cells #[.string ⟨x.toArray⟩, .int .i64 n] 44)) := (Below.refl _ _).alloc (Nat.le_refl _) _
              have hsA : (W2.alloc (.cells #[.string ⟨x.toArray⟩, .int .i64 n] 44)).heap.size = W2.heap.size + 1 := World.size_alloc _ _
              have HJ : Hid (Calls Try.prog 36 #[.slice (some ⟨W2.heap.size + 1, 0, none⟩) 3 3] ((W2.alloc (.cells #[.string ⟨x.toArray⟩, .int .i64 n] 44)).alloc (.cells #[.slice ao cap cap, .slice (some ⟨W2.heap.size, 0, none⟩) 1 1, .slice (ao) (l.length - cap) 0] 22)).drew fun e w' => ∃ v, e = .returned v ∧ OwnE w' w.heap.size v I ∧ Below w.heap.size w w' ∧ w'.cell? ⟨w.heap.size, 0, none⟩ = some (.string ⟨x.toArray⟩) ∧ w'.cell? ⟨w.heap.size, 1, none⟩ = some (.int .i64 n)) := Lib.hid (by
                have hpt := (pts_three (w := W2.alloc (.cells #[.string ⟨x.toArray⟩, .int .i64 n] 44)) (g := W2.heap.size + 1) (l1 := l.take cap) (l2 := [(x, n)]) (l3 := l.drop cap) (n1 := cap) (n2 := 1) (n3 := l.length - cap) (a3 := ao) hsA (by simp; omega) rfl (by simp) ((lies_take hl2 hpl).to hbA (by omega)) ((lies_own_new W2 (x, n) rfl).more (by omega)) ((show LiesE W2 W2.heap.size ao 0 (l.drop cap) by have := lies_drop0 hl2 hpl rfl; rwa [Nat.sub_self] at this).to hbA (by omega))).drew
                have e := HIN.out
                have hj := joined_any [l.take cap, [(x, n)], l.drop cap] _ 3 _ hpt (by rw [← e, HLEN.out]; omega) (by simp) (by rw [← e]; exact HS24.out)
                rw [← e] at hj
                refine hj.mono ?_
                rintro _ w6 ⟨v, rfl, hO, hb6⟩
                have hs6 : ((W2.alloc (.cells #[.string ⟨x.toArray⟩, .int .i64 n] 44)).alloc (.cells #[.slice ao cap cap, .slice (some ⟨W2.heap.size, 0, none⟩) 1 1, .slice (ao) (l.length - cap) 0] 22)).drew.heap.size = W2.heap.size + 1 + 1 := by simp
                have hbB := below_drewN (hbA.alloc (show W2.heap.size ≤ _ by omega) (.cells #[.slice ao cap cap, .slice (some ⟨W2.heap.size, 0, none⟩) 1 1, .slice (ao) (l.length - cap) 0] 22)) 1
                have hbC := hbB.trans (hb6.mono (by omega))
                exact ⟨v, rfl, hO.less (by omega), hB3.trans (hbC.mono (by omega)), (hbC.cell (p := ⟨w.heap.size, 0, none⟩) (show w.heap.size < W2.heap.size by omega)).trans z0, (hbC.cell (p := ⟨w.heap.size, 1, none⟩) (show w.heap.size < W2.heap.size by omega)).trans z1⟩)
              clear hbA hsA hl2 hB3 HIN HS24 HLEN HL HB HX0 HX1 hB2
              go_region_held3 (fun w' => w'.cell? ⟨w.heap.size, 0, none⟩ = some (.string ⟨x.toArray⟩) ∧ w'.cell? ⟨w.heap.size, 1, none⟩ = some (.int .i64 n))
                (first
                  | go_keep
                  | exact ⟨q0, q1⟩)
                (first
                  | ((go_at_call 36; refine HJ.out.mono ?_; rintro _ w6 ⟨v, rfl, hO, hb6, q0, q1⟩)))
              go_wp2
              refine bodyPost_ret (results_2 rfl rfl rfl) rfl ?_
              rw [HC0.out.1, HC0.out.2]
              exact ⟨_, rfl, hO, hb6⟩
            · go_wp2_with (first
                | (go_at_call 28; refine (HVA.out _).mono ?_; rintro _ _ ⟨rfl, rfl⟩)
                | (go_at_call 29; refine (HNU.out _).mono ?_; rintro _ _ ⟨rfl, rfl⟩)
                | (go_at_call 35; refine HPL.out.mono ?_; rintro _ W2 ⟨rfl, hb2⟩; have hB2 := hb1.trans (hb2.mono hb1.size); have z0 := HX0.out W2 hB2; have z1 := HX1.out W2 hB2; have hl2 := HL.out W2 hB2; have hpc : p ≤ cap := Nat.le_trans hpl hl2.room; have hpc1 : (p : Int) ≤ (cap : Int) := (by omega); have hpc2 : (p : Int) ≤ (l.length : Int) := (by omega); have hB3 := HB.out W2 hB2; have hws := hB2.size; clear hb2 hb1 y0 y1)
                | go_in)
              have hbA : Below W2.heap.size W2 (W2.alloc (.cells #[.string ⟨x.toArray⟩, .int .i64 n] 44)) := (Below.refl _ _).alloc (Nat.le_refl _) _
              have hsA : (W2.alloc (.cells #[.string ⟨x.toArray⟩, .int .i64 n] 44)).heap.size = W2.heap.size + 1 := World.size_alloc _ _
              have HJ : Hid (Calls Try.prog 36 #[.slice (some ⟨W2.heap.size + 1, 0, none⟩) 3 3] ((W2.alloc (.cells #[.string ⟨x.toArray⟩, .int .i64 n] 44)).alloc (.cells #[.slice ao p cap, .slice (some ⟨W2.heap.size, 0, none⟩) 1 1, .slice (ao.map fun x => x.add (p * 2)) (l.length - p) (cap - p)] 22)).drew fun e w' => ∃ v, e = .returned v ∧ OwnE w' w.heap.size v I ∧ Below w.heap.size w w' ∧ w'.cell? ⟨w.heap.size, 0, none⟩ = some (.string ⟨x.toArray⟩) ∧ w'.cell? ⟨w.heap.size, 1, none⟩ = some (.int .i64 n)) := Lib.hid (by
                have hpt := (pts_three (w := W2.alloc (.cells #[.string ⟨x.toArray⟩, .int .i64 n] 44)) (g := W2.heap.size + 1) (l1 := l.take p) (l2 := [(x, n)]) (l3 := l.drop p) (n1 := p) (n2 := 1) (n3 := l.length - p) (a3 := ao.map fun x => x.add (p * 2)) hsA (by simp; omega) rfl (by simp) ((lies_take hl2 hpl).to hbA (by omega)) ((lies_own_new W2 (x, n) rfl).more (by omega)) ((lies_drop hl2 hcp).to hbA (by omega))).drew
                have e := HIN.out
                have hj := joined_any [l.take p, [(x, n)], l.drop p] _ 3 _ hpt (by rw [← e, HLEN.out]; omega) (by simp) (by rw [← e]; exact HS24.out)
                rw [← e] at hj
                refine hj.mono ?_
                rintro _ w6 ⟨v, rfl, hO, hb6⟩
                have hs6 : ((W2.alloc (.cells #[.string ⟨x.toArray⟩, .int .i64 n] 44)).alloc (.cells #[.slice ao p cap, .slice (some ⟨W2.heap.size, 0, none⟩) 1 1, .slice (ao.map fun x => x.add (p * 2)) (l.length - p) (cap - p)] 22)).drew.heap.size = W2.heap.size + 1 + 1 := by simp
                have hbB := below_drewN (hbA.alloc (show W2.heap.size ≤ _ by omega) (.cells #[.slice ao p cap, .slice (some ⟨W2.heap.size, 0, none⟩) 1 1, .slice (ao.map fun x => x.add (p * 2)) (l.length - p) (cap - p)] 22)) 1
                have hbC := hbB.trans (hb6.mono (by omega))
                exact ⟨v, rfl, hO.less (by omega), hB3.trans (hbC.mono (by omega)), (hbC.cell (p := ⟨w.heap.size, 0, none⟩) (show w.heap.size < W2.heap.size by omega)).trans z0, (hbC.cell (p := ⟨w.heap.size, 1, none⟩) (show w.heap.size < W2.heap.size by omega)).trans z1⟩)
              clear hbA hsA hl2 hB3 HIN HS24 HLEN HL HB HX0 HX1 hB2
              go_region_held3 (fun w' => w'.cell? ⟨w.heap.size, 0, none⟩ = some (.string ⟨x.toArray⟩) ∧ w'.cell? ⟨w.heap.size, 1, none⟩ = some (.int .i64 n))
                (first
                  | go_keep
                  | exact ⟨q0, q1⟩)
                (first
                  | ((go_at_call 36; refine HJ.out.mono ?_; rintro _ w6 ⟨v, rfl, hO, hb6, q0, q1⟩)))
              go_wp2
              refine bodyPost_ret (results_2 rfl rfl rfl) rfl ?_
              rw [HC0.out.1, HC0.out.2]
              exact ⟨_, rfl, hO, hb6⟩
      · have h3' : num n = false := by simpa using h3
        rw [h3'] at HNU
        go_wp2_with (first
          | (go_at_call 28; refine (HVA.out _).mono ?_; rintro _ _ ⟨rfl, rfl⟩)
          | (go_at_call 29; refine (HNU.out _).mono ?_; rintro _ _ ⟨rfl, rfl⟩)
          | go_in)
        refine bodyPost_ret (results_2 rfl rfl rfl) rfl ?_
        rw [show c = 1 from by rw [HW.out]; simp [h1, h2, h3']] at HV ⊢
        rw [show V = [] from HV.out]
        exact ⟨_, rfl, OwnE.nil _ _, HB.out _ hb1⟩
    · have h2' : valid x = false := by simpa using h2
      rw [h2'] at HVA
      go_wp2_with (go_at_call 28; refine (HVA.out _).mono ?_; rintro _ _ ⟨rfl, rfl⟩)
      refine bodyPost_ret (results_2 rfl rfl rfl) rfl ?_
      rw [show c = 12 from by rw [HW.out]; simp [h1, h2']] at HV ⊢
      rw [show V = [] from HV.out]
      exact ⟨_, rfl, OwnE.nil _ _, HB.out _ hb1⟩
  · have h1' : rt l = false := by simpa using h1
    rw [h1']
    go_wp2
    refine bodyPost_ret (results_2 rfl rfl rfl) rfl ?_
    rw [show c = 1 from by rw [HW.out]; simp [h1']] at HV ⊢
    rw [show V = [] from HV.out]
    exact ⟨_, rfl, OwnE.nil _ _, HB.out _ hb1⟩
end En
end Go.Proofs.Ytdilbicdaljfkaa
