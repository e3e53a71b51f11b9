/- disk: the reference's Read. -/
import Derived.Test.YtllejfnmbpjhaaaGreatDoorJDn
namespace Go.Proofs.YtllejfnmbpjhaaaGreatDoor
set_option maxRecDepth 20000
namespace Dk
open Go.RowKit Go.Shelf

attribute [local go_sem] Oper.semAt_some zv65 zv29
attribute [local go_sem] zc29
theorem results_ref {tmps : Array Value} {w : World} {B : Nat} {D : Nat → Int} {e : Int} {fn : Func} (hf : fn.results = #[.cell 4 36, .tmp 5]) (h4 : tmps.getD 4 undef = .pointer (some ⟨B, 0, none⟩)) (h5 : tmps.getD 5 undef = .int .i64 e)
    (kV : w.heap[B]? = some (.cells (bl D).toArray 36 (0, 0))) : (results fn tmps).run Tryz.prog w = .ok (.tuple #[.agg (bl D).toArray, .int .i64 e]) w := by
  have h4' : tmps[4]?.getD undef = .pointer (some ⟨B, 0, none⟩) := by simpa using h4
  have h5' : tmps[5]?.getD undef = .int .i64 e := by simpa using h5
  have hv := run_loadVar_row (P := Tryz.prog) w B 36 36 (bl D).toArray (0, 0) _ kV und29 rfl (size_bl' D)
  simp [results, hf, h4', h5', asAddr, hv]
theorem put_row {w w1 : World} {B : Nat} {t : TypeId} {old : Array Value} (hb : Below w.heap.size w w1) (kV : w1.heap[B]? = some (.cells old t (0, 0))) (hB : w.heap.size ≤ B) (cells : Array Value) :
    ∃ w2, w2 = w1.setRow B cells ∧ w2.heap[B]? = some (.cells cells t (0, 0)) ∧ Below w.heap.size w w2 :=
  ⟨_, rfl, setRow_heap w1 B _ _ t _ kV, hb.trans ⟨rfl, rfl, rfl, by simp, fun k hk => setRow_other w1 B k cells (by omega)⟩⟩

set_option maxRecDepth 100000 in
set_option maxHeartbeats 3000000 in
theorem refread_any (g : Nat) (sa ca : Option Addr) (n sc m cc : Nat) (S : Nat → Sec) (C : Nat → Wr) (f : Int) (d : Bool) (a : Int) (w : World) (h : Has w g sa ca n sc m cc S C f d) :
    Calls Tryz.prog 75 #[.pointer (some ⟨g, 0, none⟩), .int .i64 a] w (Reads w n m S C d a) := by
  have d0 := h.bx.c0
  have d1 := h.bx.c1
  have d2 := h.bx.c2
  have d3 := h.bx.c3
  have hg := h.bx.lt
  have HH := Lib.hid h
  clear h
  go_enter Tryz.func75, Tryz.ntmps75
  go_wp2_with fail
  generalize hW : w.alloc (.cells (bl fun _ => 0).toArray 36) = W
  have hb0 : Below w.heap.size w W := by rw [← hW]; exact (Below.refl _ _).alloc (Nat.le_refl _) _
  have hsW : W.heap.size = w.heap.size + 1 := by rw [← hW]; simp
  have hbV : W.heap[w.heap.size]? = some (.cells (bl fun _ => 0).toArray 36 (0, 0)) := by rw [← hW]; exact heap_alloc_new _ _
  clear hW
  have hHW := HH.out.below hb0
  refine hHW.refFormed.mono ?_
  rintro _ w1 ⟨rfl, hb1⟩
  have hB1 := hb0.trans (hb1.mono (by omega))
  have kV1 := (hb1.block w.heap.size (by omega)).trans hbV
  have hH1 := hHW.below hb1
  clear hbV hb1 d0 d1 d2 d3 hHW
  cases hfm : formedB n m C with
  | false =>
    have hok : rdOk n m C a = false := by unfold rdOk; rw [hfm]; rfl
    have h1 : rdE n m S C d a = 1 := by unfold rdE; rw [hok]; rfl
    have h2 : rdV n m S C d a = fun _ => 0 := by unfold rdV; rw [h1]; rfl
    have H12 := Lib.hid (And.intro h1 h2)
    clear hok h1 h2
    dsimp only
    go_wp2_with (first
      | (refine wpList_buildTo rfl 36 #[] rfl _ rfl (bl fun _ => 0).toArray built29 ?_; simp only [Act.put, List.setIfInBounds_toArray, List.set_cons_succ, List.set_cons_zero])
      | (refine wpList_store_row rfl 36 (.tmp 4) (.tmp 20) rfl w.heap.size (bl fun _ => 0).toArray rfl rfl 36 _ kV1 (size_bl' _) rfl (bl_all _) ?_; simp only [Act.put]; obtain ⟨wf, hwf, kVf, hBf⟩ := put_row hB1 kV1 (Nat.le_refl _) (bl fun _ => 0).toArray; rw [← hwf]; clear hwf))
    refine bodyPost_ret (results_ref rfl rfl rfl kVf) rfl ?_
    exact ⟨by rw [H12.out.1, H12.out.2], hBf⟩
  | true =>
    have d0 := hH1.bx.c0
    have d1 := hH1.bx.c1
    have d2 := hH1.bx.c2
    have d3 := hH1.bx.c3
    have h47 := hH1.n47
    dsimp only
    go_wp2_with fail
    refine (there_any sa ca n sc m cc f a d w1 h47.1).mono ?_
    rintro _ w2 ⟨rfl, hb2⟩
    have hB2 := hB1.trans (hb2.mono hB1.size)
    have kV2 := (hb2.block w.heap.size (Array.getElem?_eq_some_iff.1 kV1).1).trans kV1
    have hH2 := hH1.below hb2
    clear kV1 hb2 hH1 d0 d1 d2 d3
    cases hha : hasB n a with
    | false =>
      have hok : rdOk n m C a = false := by unfold rdOk; rw [hfm, hha]; rfl
      have h1 : rdE n m S C d a = 1 := by unfold rdE; rw [hok]; rfl
      have h2 : rdV n m S C d a = fun _ => 0 := by unfold rdV; rw [h1]; rfl
      have H12 := Lib.hid (And.intro h1 h2)
      clear hok h1 h2
      dsimp only
      go_wp2_with (first
        | (refine wpList_buildTo rfl 36 #[] rfl _ rfl (bl fun _ => 0).toArray built29 ?_; simp only [Act.put, List.setIfInBounds_toArray, List.set_cons_succ, List.set_cons_zero])
        | (refine wpList_store_row rfl 36 (.tmp 4) (.tmp 20) rfl w.heap.size (bl fun _ => 0).toArray rfl rfl 36 _ kV2 (size_bl' _) rfl (bl_all _) ?_; simp only [Act.put]; obtain ⟨wf, hwf, kVf, hBf⟩ := put_row hB2 kV2 (Nat.le_refl _) (bl fun _ => 0).toArray; rw [← hwf]; clear hwf))
      refine bodyPost_ret (results_ref rfl rfl rfl kVf) rfl ?_
      exact ⟨by rw [H12.out.1, H12.out.2], hBf⟩
    | true =>
      have d3 := hH2.bx.c3
      have hok : rdOk n m C a = true := by unfold rdOk; rw [hfm, hha]; rfl
      have HOK := Lib.hid hok
      clear hok
      cases d with
      | true =>
        have h1 : rdE n m S C true a = 3 := by unfold rdE; rw [HOK.out]; rfl
        have h2 : rdV n m S C true a = fun _ => 0 := by unfold rdV; rw [h1]; rfl
        have H12 := Lib.hid (And.intro h1 h2)
        clear h1 h2
        dsimp only
        go_wp2_with (first
          | (refine wpList_buildTo rfl 36 #[] rfl _ rfl (bl fun _ => 0).toArray built29 ?_; simp only [Act.put, List.setIfInBounds_toArray, List.set_cons_succ, List.set_cons_zero])
          | (refine wpList_store_row rfl 36 (.tmp 4) (.tmp 25) rfl w.heap.size (bl fun _ => 0).toArray rfl rfl 36 _ kV2 (size_bl' _) rfl (bl_all _) ?_; simp only [Act.put]; obtain ⟨wf, hwf, kVf, hBf⟩ := put_row hB2 kV2 (Nat.le_refl _) (bl fun _ => 0).toArray; rw [← hwf]; clear hwf))
        refine bodyPost_ret (results_ref rfl rfl rfl kVf) rfl ?_
        exact ⟨by rw [H12.out.1, H12.out.2], hBf⟩
      | false =>
        obtain ⟨p, rfl⟩ : ∃ p : Nat, a = p := ⟨a.toNat, by simp only [hasB, Bool.and_eq_true, decide_eq_true_eq] at hha; omega⟩
        have hpn : p < n := by simp only [hasB, Bool.and_eq_true, decide_eq_true_eq] at hha; omega
        have d1 := hH2.bx.c1
        have hm47 : (m : Int) ≤ 140737488355328 := by omega
        dsimp only
        go_wp2_with fail
        go_loopw [6] (fun i wr => ∃ k : Nat, k ≤ m ∧ i = .int .i64 ((k : Int) - 1) ∧ Below w2.heap.size w2 wr ∧ ∀ j, k ≤ j → j < m → (C j).place ≠ (p : Int)) (fun i _ => (intOf i + 1).toNat)
        case atStart => exact ⟨m, Nat.le_refl _, rfl, Below.refl _ _, fun j h1 h2 => by omega⟩
        case round =>
          obtain ⟨k, hk, rfl, hB, hne⟩ := hrel
          have hHW := hH2.below hB
          have kVW := (hB.block w.heap.size (Array.getElem?_eq_some_iff.1 kV2).1).trans kV2
          have hBW := hB2.trans (hB.mono hB2.size)
          have c1 := hHW.bx.c1
          clear d1 d3
          rcases Nat.eq_zero_or_pos k with rfl | hk0
          · have hlw : lastW C (p : Int) m = none := lastW_none fun j hj => hne j (by omega) hj
            obtain ⟨b, off, rfl, hbl, _, hrow⟩ := hHW.ss.rows.resolve_left (by omega)
            have c0 := hHW.bx.c0
            have hrp := hrow p hpn
            have cN : wr.cell? ⟨b, off + p * 130 + 128, none⟩ = some (.bool (S p).noRead) := hrp 128 _ (secV_read _)
            have hp0 : (0 : Int) ≤ (p : Int) := by omega
            have hpi : (p : Int) < (n : Int) := by omega
            have hrg : wr.rangeAt b (off + p * 130) (bl (S p).data) := fun i v hv => hrp i v (by
              have hi : i < (bl (S p).data).length := (List.getElem?_eq_some_iff.1 hv).1
              unfold secV
              rw [List.getElem?_append_left hi]
              exact hv)
            clear hrow hrp hne
            cases hnr : (S p).noRead with
            | true =>
              rw [hnr] at cN
              have h1 : rdE n m S C false p = 2 := by unfold rdE; rw [HOK.out, hlw, Int.toNat_natCast, hnr]; rfl
              have h2 : rdV n m S C false p = fun _ => 0 := by unfold rdV; rw [h1]; rfl
              have H12 := Lib.hid (And.intro h1 h2)
              clear h1 h2 hlw hnr
              go_wp2_with (first
                | (refine wpList_buildTo rfl 36 #[] rfl _ rfl (bl fun _ => 0).toArray built29 ?_; simp only [Act.put, List.setIfInBounds_toArray, List.set_cons_succ, List.set_cons_zero])
                | (refine wpList_store_row rfl 36 (.tmp 4) (.tmp 62) rfl w.heap.size (bl fun _ => 0).toArray rfl rfl 36 _ kVW (size_bl' _) rfl (bl_all _) ?_; simp only [Act.put]; obtain ⟨wf, hwf, kVf, hBf⟩ := put_row hBW kVW (Nat.le_refl _) (bl fun _ => 0).toArray; rw [← hwf]; clear hwf))
              refine bodyPost_ret (results_ref rfl rfl rfl kVf) rfl ?_
              exact ⟨by rw [H12.out.1, H12.out.2], hBf⟩
            | false =>
              rw [hnr] at cN
              have h1 : rdE n m S C false p = 0 := by unfold rdE; rw [HOK.out, hlw, Int.toNat_natCast, hnr]; rfl
              have h2 : rdV n m S C false p = (S p).data := by unfold rdV; rw [h1, hlw, Int.toNat_natCast]; rfl
              have H12 := Lib.hid (And.intro h1 h2)
              clear h1 h2 hlw hnr
              go_wp2_with (first
                | (refine wpList_load_mid rfl 36 (.tmp 69) rfl b (off + p * 130) rfl (bl (S p).data) _ (by exact hrg) und29 rfl (size_bl _) ?_; simp only [Act.put, List.setIfInBounds_toArray, List.set_cons_succ, List.set_cons_zero])
                | (refine wpList_store_row rfl 36 (.tmp 4) (.tmp 70) rfl w.heap.size (bl (S p).data).toArray rfl rfl 36 _ kVW (size_bl' _) rfl (bl_all _) ?_; simp only [Act.put]; obtain ⟨wf, hwf, kVf, hBf⟩ := put_row hBW kVW (Nat.le_refl _) (bl (S p).data).toArray; rw [← hwf]; clear hwf))
              refine bodyPost_ret (results_ref rfl rfl rfl kVf) rfl ?_
              exact ⟨by rw [H12.out.1, H12.out.2], hBf⟩
          · obtain ⟨q, rfl⟩ : ∃ q, k = q + 1 := ⟨k - 1, by omega⟩
            have hq : ((q + 1 : Nat) : Int) - 1 = (q : Int) := by omega
            rw [hq]
            obtain ⟨b, off, rfl, hbl, _, hrow⟩ := hHW.cs.rows.resolve_left (by omega)
            have hrq := hrow q (by omega)
            have cP : wr.cell? ⟨b, off + q * 129, none⟩ = some (.int .i64 (C q).place) := hrq 0 _ rfl
            have hq0 : (0 : Int) ≤ (q : Int) := by omega
            have hqm : (q : Int) < (m : Int) := by omega
            have hrg : wr.rangeAt b (off + q * 129 + 1) (bl (C q).data) := fun i v hv => by
              have := hrq (1 + i) v (by unfold wrV; rw [Nat.add_comm 1 i]; exact hv)
              rwa [← Nat.add_assoc] at this
            clear hrow hrq hq
            by_cases hpx : (C q).place = (p : Int)
            · have hx : lastW C (p : Int) m = some q := lastW_skip hpx m (by omega) (fun j h1 h2 => hne j (by omega) h2)
              have h1 : rdE n m S C false p = 0 := by unfold rdE; rw [HOK.out, hx]; rfl
              have h2 : rdV n m S C false p = (C q).data := by unfold rdV; rw [h1, hx]; rfl
              have H12 := Lib.hid (And.intro h1 h2)
              rw [hpx] at cP
              clear h1 h2 hx hpx hne
              go_wp2_with (first
                | (refine wpList_load_mid rfl 36 (.tmp 52) rfl b (off + q * 129 + 1) rfl (bl (C q).data) _ (by exact hrg) und29 rfl (size_bl _) ?_; simp only [Act.put, List.setIfInBounds_toArray, List.set_cons_succ, List.set_cons_zero])
                | (refine wpList_store_row rfl 36 (.tmp 4) (.tmp 53) rfl w.heap.size (bl (C q).data).toArray rfl rfl 36 _ kVW (size_bl' _) rfl (bl_all _) ?_; simp only [Act.put]; obtain ⟨wf, hwf, kVf, hBf⟩ := put_row hBW kVW (Nat.le_refl _) (bl (C q).data).toArray; rw [← hwf]; clear hwf))
              refine bodyPost_ret (results_ref rfl rfl rfl kVf) rfl ?_
              exact ⟨by rw [H12.out.1, H12.out.2], hBf⟩
            · have hpb : ((C q).place == (p : Int)) = false := by simpa using hpx
              have HPX := Lib.hid hpx
              clear hpx hrg
              go_wp2_with fail
              go_roundw
              case rel => exact ⟨q, by omega, by go_num, hB, fun j h1 h2 => by
                rcases Nat.eq_or_lt_of_le h1 with e | e
                · subst e; exact HPX.out
                · exact hne j (by omega) h2⟩
              case measure => simp [intOf]

end Dk
end Go.Proofs.YtllejfnmbpjhaaaGreatDoor
