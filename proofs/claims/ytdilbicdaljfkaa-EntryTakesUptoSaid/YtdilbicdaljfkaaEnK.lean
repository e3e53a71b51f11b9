/- The first entry of bytes; Take, of the code. -/
import Derived.Test.YtdilbicdaljfkaaEnR
import Derived.Test.YtdilbicdaljfkaaEnP
import Derived.Deep.RegionHeld3
namespace Go.Proofs.Ytdilbicdaljfkaa
set_option maxRecDepth 20000
namespace En
open Go.RowKit Sha

theorem undE : Try.prog.underlying 44 = some (.struct (Try.prog.fieldsOf 44)) := by kernel_rfl
theorem sizeE (x : E) : (Try.prog.info? 44).map (·.size) = some (#[.string ⟨x.1.toArray⟩, .int .i64 x.2] : Array Value).size := by kernel_rfl
theorem results_2e {tmps : Array Value} {w : World} {B : Nat} {x : E} {e : Int} {fn : Func} {s r : Nat} (hf : fn.results = #[.cell s 44, .tmp r]) (h4 : tmps.getD s undef = .pointer (some ⟨B, 0, none⟩)) (h5 : tmps.getD r undef = .int .i64 e)
    (kV : w.heap[B]? = some (.cells #[.string ⟨x.1.toArray⟩, .int .i64 x.2] 44 (0, 0))) : (results fn tmps).run Try.prog w = .ok (.tuple #[.agg #[.string ⟨x.1.toArray⟩, .int .i64 x.2], .int .i64 e]) w := by
  have h4' : tmps[s]?.getD undef = .pointer (some ⟨B, 0, none⟩) := by simpa using h4
  have h5' : tmps[r]?.getD undef = .int .i64 e := by simpa using h5
  have hv := run_loadVar_row (P := Try.prog) w B 44 44 #[.string ⟨x.1.toArray⟩, .int .i64 x.2] (0, 0) _ kV undE rfl (sizeE x)
  simp [results, hf, h4', h5', asAddr, hv]
theorem str_txt (xs : List Int) : strOf xs = ⟨(txt xs).toArray⟩ := by
  have h := strOf_data xs
  cases hs : strOf xs with
  | mk d =>
    rw [hs] at h
    simp only at h
    congr 1
    rw [← Array.toList_inj, h]
    rfl
/-- what stands first -/
def fsV : List Int → E
  | n :: k :: r => if k.toNat ≤ r.length then (txt (r.take k.toNat), n) else ([], 0)
  | _ => ([], 0)
def fsN : List Int → Nat
  | _ :: k :: r => if k.toNat ≤ r.length then k.toNat + 2 else 0
  | _ => 0
theorem lies_sub {w : World} {B b off cap : Nat} {n k : Int} {r : List Int} (h : Lies w B (some ⟨b, off, none⟩) cap (n :: k :: r)) (m : Nat) (hm : m ≤ r.length) : Lies w B (some ⟨b, off + 2, none⟩) (cap - 2) (r.take m) := by
  have hr := h.room
  simp only [List.length_cons] at hr
  refine ⟨by rw [List.length_take]; omega, (fun e => by cases e), fun hne => ?_⟩
  obtain ⟨b', off', e, hb, hc⟩ := h.cells (by simp)
  injection e with e
  injection e with e1 e2
  subst e1 e2
  refine ⟨b, off + 2, rfl, hb, fun i hi => ?_⟩
  rw [List.length_take] at hi
  have := hc (i + 2) (by simp only [List.length_cons]; omega)
  rw [show off + 2 + i = off + (i + 2) by omega, this]
  simp only [List.getD_cons_succ]
  rw [List.getD_eq_getElem?_getD, List.getD_eq_getElem?_getD, List.getElem?_take_of_lt (by omega)]

set_option maxHeartbeats 2000000 in
theorem first_any (xs : List Int) (ao : Option Addr) (cap : Nat) (w : World) (h : Lies w w.heap.size ao cap xs) (hB : Byte xs) (hn : xs.length ≤ 140737488355328) :
    Calls Try.prog 31 #[.slice ao xs.length cap] w fun e w' => e = .returned (.tuple #[.agg #[.string ⟨(fsV xs).1.toArray⟩, .int .i64 (fsV xs).2], .int .i64 (fsN xs)]) ∧ Below w.heap.size w w' := by
  have hb0 : ∀ o, Below w.heap.size w (w.alloc o) := fun o => (Below.refl _ _).alloc (Nat.le_refl _) o
  have hsh : xs.length < 2 → fsV xs = ([], 0) ∧ fsN xs = 0 := fun hl => by
    match xs, hl with
    | [], _ => exact ⟨rfl, rfl⟩
    | [_], _ => exact ⟨rfl, rfl⟩
  by_cases h2 : xs.length < 2
  · obtain ⟨e1, e2⟩ := hsh h2
    rw [e1, e2]
    have h2' : (xs.length : Int) < 2 := by omega
    clear hsh e1 e2
    go_enter Try.func31, Try.ntmps31
    go_wp2
    refine bodyPost_ret (results_2e (x := ([], 0)) rfl rfl rfl (heap_alloc_new w _)) rfl ?_
    exact ⟨rfl, hb0 _⟩
  · obtain ⟨n, k, r, rfl⟩ : ∃ n k r, xs = n :: k :: r := by
      match xs, h2 with
      | [], h2 => simp at h2
      | [_], h2 => simp at h2
      | n :: k :: r, _ => exact ⟨n, k, r, rfl⟩
    clear hsh h2
    obtain ⟨b, off, rfl, hbb, hc⟩ := h.cells (by simp)
    have c0 := hc 0 (by simp)
    have c1 := hc 1 (by simp)
    simp only [List.getD_cons_zero, List.getD_cons_succ, Nat.add_zero] at c0 c1
    have hbk := hB k (by simp)
    have hbn := hB n (by simp)
    obtain ⟨kn, rfl⟩ : ∃ kn : Nat, k = (kn : Int) := ⟨k.toNat, by omega⟩
    have hw1 : IntKind.i64.wrap ((kn : Nat) : Int) = (kn : Int) := by rw [IntKind.wrap_i64]; omega
    have hw2 : IntKind.i64.wrap n = n := by rw [IntKind.wrap_i64]; omega
    have hrm := h.room
    simp only [List.length_cons] at hrm hn
    by_cases hkr : kn ≤ r.length
    · have eV1 : fsV (n :: (kn : Int) :: r) = (txt (r.take kn), n) := by simp [fsV, hkr]
      have eN1 : fsN (n :: (kn : Int) :: r) = kn + 2 := by simp [fsN, hkr]
      rw [eV1, eN1]
      have hlr : (r.take kn).length = kn := by rw [List.length_take]; omega
      have hls := lies_sub h kn hkr
      obtain ⟨m, hm⟩ : ∃ m, m = kn + 2 := ⟨_, rfl⟩
      have hmk : m - 2 = kn := by omega
      have hcv : ∀ W, Below w.heap.size w W → (convert 25 9 (.slice (some ⟨b, off + 2, none⟩) (m - 2) (cap - 2))).run Try.prog W = .ok (.string ⟨(txt (r.take kn)).toArray⟩) W := fun W hb => by
        have := run_str W w.heap.size (some ⟨b, off + 2, none⟩) (cap - 2) (r.take kn) (hls.below hb)
        rw [hlr, str_txt] at this
        rw [hmk]
        exact this
      have hcv1 : cap = 2 → ∀ W, Below w.heap.size w W → (convert 25 9 (.slice (some ⟨b, off, none⟩) (m - 2) (cap - 2))).run Try.prog W = .ok (.string ⟨(txt (r.take kn)).toArray⟩) W := fun hc2 W hb => by
        have hk0 : kn = 0 := by omega
        have := run_str W w.heap.size (some ⟨b, off, none⟩) (cap - 2) [] ⟨Nat.zero_le _, (fun e => by cases e), fun h => absurd rfl h⟩
        rw [hmk, hk0, List.take_zero]
        exact this
      have d0 : ∀ o, (w.alloc o).cell? ⟨b, off, none⟩ = some (.int .u8 n) := fun o => (World.cell?_alloc_lt w o _ hbb).trans c0
      have hm2 : (kn : Nat) + 2 = m := by omega
      rw [hm2]
      generalize txt (r.take kn) = X at hcv hcv1 ⊢
      generalize hR : (n :: (kn : Int) :: r).length = R
      have hR2 : R = r.length + 2 := by rw [← hR]; simp
      have h2m : (2 : Int) + (kn : Int) = (m : Int) := by omega
      have hi1 : (m : Int) ≤ (cap : Int) := by omega
      have hi2 : decide ((R : Int) < 2) = false := by simp; omega
      have hi3 : decide ((R : Int) < (m : Int)) = false := by simp; omega
      have hi4 : (2 : Int) ≤ (m : Int) := by omega
      have hi5 : 2 ≤ m := by omega
      have hi6 : m ≤ cap := by omega
      have hi7 : (0 : Int) < (R : Int) := by omega
      have hi8 : (1 : Int) < (R : Int) := by omega
      have hi9 : 0 < R := by omega
      have hi10 : decide (R < m) = false := by simp; omega
      have hi11 : ¬ R < m := by omega
      have hw3 : IntKind.i64.wrap ((2 : Int) + (kn : Int)) = (m : Int) := by rw [IntKind.wrap_i64]; omega
      clear h hc hls hlr eV1 eN1 hB hR hR2 hmk hm hm2 hkr hrm hn
      by_cases hc2 : cap = 2
      · obtain rfl : m = 2 := by omega
        have hcv2 : ∀ o, (convert 25 9 (.slice (some ⟨b, off, none⟩) 0 0)).run Try.prog (w.alloc o) = .ok (.string ⟨X.toArray⟩) (w.alloc o) := fun o => by have := hcv1 hc2 _ (hb0 o); rwa [hc2] at this
        have hcv3 : ∀ o, (convert 25 9 (.slice (some ⟨b, off, none⟩) 0 0)).run Try.prog (w.alloc o).drew = .ok (.string ⟨X.toArray⟩) (w.alloc o).drew := fun o => by have := hcv1 hc2 _ (below_drewN (hb0 o) 1); rwa [hc2] at this
        clear hcv hcv1
        subst hc2
        go_enter Try.func31, Try.ntmps31
        go_wp2
        go_region_held3 (fun w' => w'.cell? ⟨b, off, none⟩ = some (.int .u8 n) ∧ (convert 25 9 (.slice (some ⟨b, off, none⟩) 0 0)).run Try.prog w' = .ok (.string ⟨X.toArray⟩) w')
          (first
            | exact ⟨d0 _, hcv2 _⟩
            | exact ⟨d0 _, hcv3 _⟩
            | go_keep)
          (fail)
        go_wp2
        refine bodyPost_ret (results_2e (x := (X, n)) rfl rfl rfl (heap_alloc_new w _)) rfl ?_
        exact ⟨rfl, below_drewN (hb0 _) 1⟩
      · have hcv2 : ∀ o, (convert 25 9 (.slice (some ⟨b, off + 2, none⟩) (m - 2) (cap - 2))).run Try.prog (w.alloc o) = .ok (.string ⟨X.toArray⟩) (w.alloc o) := fun o => hcv _ (hb0 o)
        have hcv3 : ∀ o, (convert 25 9 (.slice (some ⟨b, off + 2, none⟩) (m - 2) (cap - 2))).run Try.prog (w.alloc o).drew = .ok (.string ⟨X.toArray⟩) (w.alloc o).drew := fun o => hcv _ (below_drewN (hb0 o) 1)
        clear hcv hcv1
        go_enter Try.func31, Try.ntmps31
        go_wp2
        go_region_held3 (fun w' => w'.cell? ⟨b, off, none⟩ = some (.int .u8 n) ∧ (convert 25 9 (.slice (some ⟨b, off + 2, none⟩) (m - 2) (cap - 2))).run Try.prog w' = .ok (.string ⟨X.toArray⟩) w')
          (first
            | exact ⟨d0 _, hcv2 _⟩
            | exact ⟨d0 _, hcv3 _⟩
            | go_keep)
          (fail)
        go_wp2
        refine bodyPost_ret (results_2e (x := (X, n)) rfl rfl rfl (heap_alloc_new w _)) rfl ?_
        exact ⟨rfl, below_drewN (hb0 _) 1⟩
    · have eV1 : fsV (n :: (kn : Int) :: r) = ([], 0) := by simp [fsV, hkr]
      have eN1 : fsN (n :: (kn : Int) :: r) = 0 := by simp [fsN, hkr]
      rw [eV1, eN1]
      generalize hR : (n :: (kn : Int) :: r).length = R
      have hR2 : R = r.length + 2 := by rw [← hR]; simp
      have hi2 : decide ((R : Int) < 2) = false := by simp; omega
      have hi3 : decide ((R : Int) < 2 + (kn : Int)) = true := by simp; omega
      have hi8 : (1 : Int) < (R : Int) := by omega
      clear h hc eV1 eN1 hB hR hR2 hkr
      go_enter Try.func31, Try.ntmps31
      go_wp2
      refine bodyPost_ret (results_2e (x := ([], 0)) rfl rfl rfl (heap_alloc_new w _)) rfl ?_
      exact ⟨rfl, hb0 _⟩
end En
end Go.Proofs.Ytdilbicdaljfkaa
