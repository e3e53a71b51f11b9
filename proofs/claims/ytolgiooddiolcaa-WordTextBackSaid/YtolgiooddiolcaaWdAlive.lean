/- word's fixed fact: alive answers true. -/
import Derived.Test.YtolgiooddiolcaaWdAny
namespace Go.Proofs.Ytolgiooddiolcaa
namespace Wd
open Go.RowKit Byt Go.PlainAid

def nines (_ : Nat) : Int := 9
set_option maxHeartbeats 400000 in
theorem alive_any (w : World) : Calls Try.prog 8 #[] w fun e w' => e = .returned (.bool true) ∧ Below w.heap.size w w' := by
  go_enter Try.func8, Try.ntmps8
  go_wp2_with fail
  have hr : Row (w.alloc (.cells #[.int .u8 9, .int .u8 9, .int .u8 9, .int .u8 9] 5)) w.heap.size 0 4 nines :=
    ⟨⟨_, heap_alloc_new _ _, fun j hj => by
      match j, hj with
      | 0, _ | 1, _ | 2, _ | 3, _ => rfl⟩⟩
  have hb : Below w.heap.size w (w.alloc (.cells #[.int .u8 9, .int .u8 9, .int .u8 9, .int .u8 9] 5)) := (Below.refl _ _).alloc (Nat.le_refl _) _
  refine (put_ok w.heap.size 0 4 4 1 2 258 nines _ hr (by omega) (by omega) (by omega) (by omega) (by omega) (by omega) (by decide)).mono ?_
  rintro _ w1 ⟨rfl, hg, hr1⟩
  have hb1 := below_only hb hg (Nat.le_refl _) (by simp)
  have c0 : w1.cell? ⟨w.heap.size, 0, none⟩ = some (.int .u8 9) := hr1.cell (j := 0) (by omega)
  have c1 : w1.cell? ⟨w.heap.size, 1, none⟩ = some (.int .u8 2) := hr1.cell (j := 1) (by omega)
  have c2 : w1.cell? ⟨w.heap.size, 2, none⟩ = some (.int .u8 1) := hr1.cell (j := 2) (by omega)
  have c3 : w1.cell? ⟨w.heap.size, 3, none⟩ = some (.int .u8 9) := hr1.cell (j := 3) (by omega)
  have hs := hb1.size
  clear hr hb hr1 hg
  dsimp only
  go_wp2_with fail
  refine (zero_any (some ⟨w1.heap.size, 0, none⟩) 1 1 (fun _ => 0) _ ⟨by omega, by simp, .inr ⟨_, 0, rfl, fun j hj => ?_⟩⟩ (by omega)).mono ?_
  · obtain rfl : j = 0 := by omega
    rw [World.cell?_alloc_new]
    rfl
  rintro _ _ ⟨rfl, rfl⟩
  clear c0 c1 c2 c3
  rw [show zeroB (fun _ => 0) 1 = true from rfl]
  dsimp only
  go_wp2_with fail
  go_ret
  exact ⟨rfl, hb1.alloc hs _⟩

end Wd
end Go.Proofs.Ytolgiooddiolcaa
