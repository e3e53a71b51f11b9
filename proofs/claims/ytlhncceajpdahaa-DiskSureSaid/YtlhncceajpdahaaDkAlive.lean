/- disk: the fixed fact. -/
import Derived.Test.YtlhncceajpdahaaDkNew
import Derived.Test.YtlhncceajpdahaaDkRead
namespace Go.Proofs.Ytlhncceajpdahaa
namespace Dk
open Go.RowKit

attribute [local go_sem] zv29
def five (j : Nat) : Int := if j = 0 then 5 else 0
theorem built_five : Try.prog.built 41 [(0, .int .u8 5)] = some (bl five).toArray := by kernel_rfl
theorem new_has {w w' : World} {b : Nat} {k : Nat} {f : Int} {d : Bool} (hk : k * 130 ≤ 140737488355328) (h : Lay w w.heap.size w.heap.size (some ⟨b, 0, none⟩) k k 130 (fun _ => secV sec0)) (hw : w' = w.alloc (.cells #[.slice (some ⟨b, 0, none⟩) k k, .slice none 0 0, .int .i64 f, .bool d] 28)) :
    Has w' w.heap.size (some ⟨b, 0, none⟩) none k k 0 0 (fun _ => sec0) (fun _ => wr0) f d := by
  subst hw
  exact ⟨heap_alloc_new _ _, (h.keep fun b hb _ => Below.heap_alloc _ _ _ hb).more (by simp), Lay.empty _ _ _ 0 _ _, hk, by omega⟩

theorem set_five : ((bl fun _ => 0).set 0 (.int .u8 5)) = bl five := by kernel_rfl
abbrev S0 : Nat → Sec := fun _ => sec0
abbrev C0 : Nat → Wr := fun _ => wr0
abbrev C1 : Nat → Wr := updC C0 0 ⟨1, five⟩
abbrev K1 : Nat → Bool := keepB 1 fun _ => true
abbrev S1 : Nat → Sec := stS S0 C1 K1 1
theorem a_write {w w' : World} {g : Nat} {e : Ending} (h : Writes w g 2 0 S0 C0 (-1) false 1 five e w') : Turns w g 0 2 1 S0 C1 (-1) false e w' := h
theorem a_crash {w w' : World} {g : Nat} {e : Ending} (h : Turns w g (crE 2 1 C1) 2 (crM 2 1 C1) (crS 2 1 S0 C1 K1) C1 (crF 2 1 C1 (-1)) (crD 2 1 C1 false) e w') : Turns w g 0 2 0 S1 C1 (-1) false e w' := h
theorem a_read {w w' : World} {e : Ending} (h : Reads w 2 0 S1 C1 false 1 e w') : e = .returned (.tuple #[.agg (bl five).toArray, .int .i64 0]) ∧ Below w.heap.size w w' := h
theorem a_formed : formedB 2 0 C1 = true := rfl

set_option maxRecDepth 100000 in
set_option maxHeartbeats 1000000 in
theorem alive_any (w : World) : Calls Try.prog 4 #[] w fun e w' => e = .returned (.bool true) ∧ Below w.heap.size w w' := by
  go_enter Try.func4, Try.ntmps4
  go_wp2_with fail
  refine (new_any 2 w).mono ?_
  rintro _ w1 ⟨hb1, hn⟩
  rw [if_pos (show newOk 2 = true from rfl)] at hn
  obtain ⟨b, rfl, hl⟩ := hn
  have hs1 := hb1.size
  dsimp only
  go_wp2_with (first
    | (refine wpList_store_row rfl 28 (.tmp 1) (.tmp 9) rfl w1.heap.size #[.slice (some ⟨b, 0, none⟩) 2 2, .slice none 0 0, .int .i64 (-1), .bool false] rfl rfl 28 _ (heap_alloc_new w1 _) (by kernel_rfl) rfl (disk_one _ _ _ _ _ _ _ _) ?_; rw [World.setRow_alloc_new]; simp only [Act.put])
    | (refine wpList_buildTo rfl 41 #[(0, .const (.int .u8 5))] rfl _ rfl (bl five).toArray built_five ?_; simp only [Act.put, List.setIfInBounds_toArray, List.set_cons_succ, List.set_cons_zero]))
  try rw [set_five]
  generalize hW1 : w1.alloc (.cells #[.slice (some ⟨b, 0, none⟩) 2 2, .slice none 0 0, .int .i64 (-1), .bool false] 28) = W1
  have hH1 := new_has (k := 2) (by omega) hl hW1.symm
  have hB1 : Below w.heap.size w W1 := by rw [← hW1]; exact hb1.alloc hs1 _
  clear hW1 hl
  refine (write_any w1.heap.size _ _ 2 2 0 0 S0 C0 (-1) false 1 five W1 hH1 (by omega) (by omega)).mono ?_
  intro e w2 h2
  obtain ⟨rfl, hg2, sa2, sc2, ca2, cc2, hH2⟩ := a_write h2
  have hB2 : Below w.heap.size w w2 := hB1.grown hg2 hB1.size (fun k hk => by injection hk with hk; omega)
  clear h2 hH1 hg2 hB1
  dsimp only
  go_wp2_with fail
  generalize hW3 : w2.alloc (.cells #[.bool true] 4) = W3
  have hb3 : Below w2.heap.size w2 W3 := by rw [← hW3]; exact (Below.refl _ _).alloc (Nat.le_refl _) _
  have hk3 : W3.cell? ⟨w2.heap.size, 0, none⟩ = some (.bool true) := by rw [← hW3]; exact World.cell?_alloc_new _ _ _ 0
  have hs3 : W3.heap.size = w2.heap.size + 1 := by rw [← hW3]; simp
  clear hW3
  have hH3 := hH2.below hb3
  have hg3 := hH2.bx.lt
  have hB3 : Below w.heap.size w W3 := hB2.trans (hb3.mono hB2.size)
  refine (crash_any w1.heap.size sa2 ca2 2 sc2 1 cc2 S0 C1 (-1) false (some ⟨w2.heap.size, 0, none⟩) 1 1 (fun _ => true) W3 hH3 (.inr ⟨w2.heap.size, 0, rfl, by omega, by omega, fun i hi => by
    obtain rfl : i = 0 := by omega
    exact hk3⟩) (by omega)).mono ?_
  intro e w4 h4
  obtain ⟨rfl, hg4, sa4, sc4, ca4, cc4, hH4⟩ := a_crash h4
  have hB4 : Below w.heap.size w w4 := hB3.grown hg4 hB3.size (fun k hk => by injection hk with hk; omega)
  clear h4 hH3 hg4 hk3 hb3 hB2 hH2 hB3
  dsimp only
  go_wp2_with fail
  refine (read_any w1.heap.size sa4 ca4 2 sc4 0 cc4 S1 C1 (-1) false 1 w4 hH4).mono ?_
  intro e w5 h5
  obtain ⟨rfl, hb5⟩ := a_read h5
  have hH5 := hH4.below hb5
  have hB5 := hB4.trans (hb5.mono hB4.size)
  clear h5 hH4 hb5 hB4
  have hH6 : ∀ o, Has (w5.alloc o) w1.heap.size sa4 ca4 2 sc4 0 cc4 S1 C1 (-1) false := fun o => hH5.below ((Below.refl _ _).alloc (Nat.le_refl _) _)
  have hx6 := (hH6 (.cells (bl five).toArray 41)).bx
  have d0 := hx6.c0
  have d1 := hx6.c1
  have d2 := hx6.c2
  have d3 := hx6.c3
  have d5 : (w5.alloc (.cells (bl five).toArray 41)).cell? ⟨w5.heap.size, 0, none⟩ = some (.int .u8 5) := by
    rw [cell_of_row _ _ _ _ _ _ (heap_alloc_new _ _)]
    rfl
  dsimp only
  go_wp2_with (refine wpList_store_row rfl 41 (.tmp 5) (.tmp 17) rfl w5.heap.size (bl five).toArray rfl rfl 41 _ (heap_alloc_new w5 _) (size_bl' _) rfl (bl_all _) ?_; rw [World.setRow_alloc_new]; generalize hW6 : w5.alloc (.cells (bl five).toArray 41) = W6 at d0 d1 d2 d3 d5 ⊢; simp only [Act.put])
  have hH7 : Has W6 w1.heap.size sa4 ca4 2 sc4 0 cc4 S1 C1 (-1) false := by rw [← hW6]; exact hH6 _
  have hB6 : Below w.heap.size w W6 := by rw [← hW6]; exact hB5.alloc hB5.size _
  refine (Formed_any sa4 ca4 2 sc4 0 cc4 w1.heap.size C1 (-1) false W6 (by omega) (by omega) hH7.cs).mono ?_
  rw [a_formed]
  rintro _ w7 ⟨rfl, hb7⟩
  dsimp only
  go_wp2_with fail
  go_ret
  exact ⟨rfl, hB6.trans (hb7.mono hB6.size)⟩

end Dk
end Go.Proofs.Ytlhncceajpdahaa
