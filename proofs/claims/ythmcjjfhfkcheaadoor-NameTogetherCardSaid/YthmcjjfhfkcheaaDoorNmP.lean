/- The reference's pieces: a loop over the bytes. -/
import Derived.Test.YthmcjjfhfkcheaaDoorNmV
namespace Go.Proofs.YthmcjjfhfkcheaaDoor
set_option maxRecDepth 20000
namespace Nm
open Go.RowKit

theorem u8_ne {b c : UInt8} (h : b ≠ c) : (b.toNat : Int) ≠ c.toNat := fun e => h (UInt8.toNat.inj (by omega))
theorem take_next {s : T} {k : Nat} (hk : k < s.length) : s.take (k + 1) = s.take k ++ [s[k]] := by
  rw [List.take_add_one, List.getElem?_eq_getElem hk]; rfl
theorem own_lit (w : World) (x : T) : Own (w.alloc (.cells #[.string ⟨x.toArray⟩] 9)) w.heap.size (.slice (some ⟨w.heap.size, 0, none⟩) 1 1) [x] :=
  World.ownsRow_lit w #[.string ⟨x.toArray⟩] 1 (Nat.le_refl _) (by unfold maxLen; omega) rfl
/-- the last text, one byte longer -/
theorem own_last {w : World} {base g n c : Nat} {H : List T} {x y : T} (h : Own w base (.slice (some ⟨g, 0, none⟩) n c) (H ++ [x])) : n = H.length + 1 ∧ base ≤ g ∧ g < w.heap.size ∧ w.cell? ⟨g, H.length, none⟩ = some (.string ⟨x.toArray⟩) ∧ w.frozen? ⟨g, H.length, none⟩ = false ∧
    Own (w.setCell ⟨g, H.length, none⟩ (.string ⟨y.toArray⟩)) base (.slice (some ⟨g, 0, none⟩) n c) (H ++ [y]) := by
  have hn : n = H.length + 1 := by
    obtain ⟨ao, cap, h1, _⟩ := h.slice
    injection h1 with _ h1 _
    rw [h1]; simp
  subst hn
  have hlt := World.ownsRow.lt h g rfl
  have hlen : (H ++ [x]).length = H.length + 1 := by simp
  have h' : w.ownsRow base 9 1 (.slice (some ⟨g, 0, none⟩) (H.length + 1) c) (H.length + 1) (strs (H ++ [x])) := by
    have := h
    unfold Own at this
    rwa [hlen] at this
  refine ⟨rfl, hlt.1, hlt.2, ?_, World.ownsRow.frozenAt h' _, ?_⟩
  · rw [World.ownsRow.cellAt h' H.length (by omega)]
    simp [strs]
  · have := World.ownsRow.stored h' H.length (.string ⟨y.toArray⟩)
    unfold Own
    rw [show (H ++ [y]).length = H.length + 1 by simp]
    have e : (strs (H ++ [x])).set H.length (.string ⟨y.toArray⟩) = strs (H ++ [y]) := by simp [strs]
    rw [e] at this
    exact this.1

theorem run_one (s : T) (k : Nat) (h : k < s.length) (W : World) : (Instr.slice 9 (.string ⟨s.toArray⟩) (some (.int .i64 (k : Int))) (some (.int .i64 ((k : Int) + 1))) none).run Tryd.prog W = .ok (.string ⟨#[s[k]]⟩) W := by
  have hs : (⟨s.toArray⟩ : ByteArray).size = s.length := by simp [ByteArray.size]
  rw [run_slice_string W 9 _ _ _ _ _ und_str (by omega) (by omega) (by rw [hs]; omega)]
  have e1 : ((k : Int)).toNat = k := by omega
  have e2 : ((k : Int) + 1).toNat = k + 1 := by omega
  rw [e1, e2]
  have e : (⟨s.toArray⟩ : ByteArray).extract k (k + 1) = ⟨#[s[k]]⟩ := by
    apply ByteArray.ext
    rw [ByteArray.data_extract]
    apply Array.ext'
    simp only [Array.toList_extract, List.extract_eq_take_drop]
    have : k + 1 - k = 1 := by omega
    rw [this, List.drop_eq_getElem_cons h]
    rfl
  rw [e]
theorem run_add (W : World) (x : T) (y : UInt8) (hx : x.length ≤ 240) : (Op.stringOp .add ⟨x.toArray⟩ ⟨#[y]⟩).run Tryd.prog W = .ok (.string ⟨(x ++ [y]).toArray⟩) W :=
  run_string_add_lists W x [y] (by omega) (by simp)

set_option maxHeartbeats 2000000 in
theorem pieces_any (s : T) (w : World) (hl : s.length ≤ 240) : Calls Tryd.prog 20 #[.string ⟨s.toArray⟩] w fun e w' => ∃ v, e = .returned v ∧ Own w' w.heap.size v (pc s) ∧ Below w.heap.size w w' := by
  have HO := Lib.hid (own_lit w [])
  go_enter Tryd.func20, Tryd.ntmps20
  go_wp2
  go_loopw [3, 4] (fun v i wr => ∃ k : Nat, k ≤ s.length ∧ i = .int .i64 k ∧ Hid (Own wr w.heap.size v (pc (s.take k))) ∧ Below w.heap.size w wr) (fun _ i _ => s.length - (intOf i).toNat)
  case atStart => exact ⟨0, Nat.zero_le _, rfl, HO, (Below.refl _ _).alloc (Nat.le_refl _) _⟩
  case round =>
    rename_i v i wr
    obtain ⟨k, hk, rfl, HW, hb⟩ := hrel
    have hsz := hb.size
    by_cases hlt : k < s.length
    · by_cases h47 : s[k] = 47
      · have e1 : pc (s.take (k + 1)) = pc (s.take k) ++ [[]] := by rw [take_next hlt, h47]; exact pc_snoc_hit _
        have hi : ((((⟨s.toArray⟩ : ByteArray)[k]'(by simpa [ByteArray.size] using hlt)).toNat : Nat) : Int) = 47 := congrArg (fun b : UInt8 => (b.toNat : Int)) h47
        have hle : (pc (s.take k)).length + 1 ≤ 1000000 := by have := pc_len_le (s.take k); have := List.length_take_le k s; omega
        clear h47
        go_wp2_with (first
          | (at_builtin; refine wpList_app rfl (.tmp 16) (.tmp 17) rfl w.heap.size _ _ rfl (HW.out.alloc _) [] wr.heap.size 1 rfl (by simp) hle (by simp; omega) ?_; intro v2 w2 hS hB2)
          | go_in)
        · go_roundw
          case rel =>
            exact ⟨k + 1, by omega, by go_num, Lib.hid (by rw [e1]; exact hS), hb.trans (((Below.refl _ _).alloc hsz _).trans hB2)⟩
          case measure => simp [intOf]; omega
      · have hi : ((((⟨s.toArray⟩ : ByteArray)[k]'(by simpa [ByteArray.size] using hlt)).toNat : Nat) : Int) ≠ 47 := u8_ne h47
        obtain ⟨H, x, e0, e1⟩ := pc_snoc_miss h47 (s.take k)
        rw [← take_next hlt] at e1
        rw [e0] at HW
        obtain ⟨ao, cap, rfl, hat, _, _⟩ := HW.out.slice
        obtain ⟨g, rfl, hg, _⟩ := hat.cells (by simp)
        obtain ⟨hn, hbg, _, hc, hf, hst⟩ := own_last (y := x ++ [s[k]]) HW.out
        have hx : x.length ≤ 240 := by
          have := pc_short (s.take k) x (by rw [e0]; simp)
          have := List.length_take_le k s
          omega
        have HST := Lib.hid hst
        have hHl : H.length ≤ 240 := by
          have := pc_len_le (s.take k)
          have h2 := List.length_take_le k s
          rw [e0] at this
          simp only [List.length_append, List.length_cons, List.length_nil] at this
          omega
        have hsl := run_one s k hlt
        have hadd := fun W => run_add W x s[k] hx
        generalize s[k] = y at hsl hadd HST e1
        clear hst h47 hat hn
        have hlen : (H ++ [x]).length = H.length + 1 := by simp
        rw [hlen] at HW HST ⊢
        go_wp2
        go_region

        go_wp2
        go_roundw
        case rel =>
          exact ⟨k + 1, by omega, by go_num, Lib.hid (by rw [e1]; exact World.ownsRow.drew HST.out), (hb.setCell (p := ⟨g, H.length, none⟩) hbg _).drew⟩
        case measure => simp [intOf]; omega
    · have e : s.take k = s := List.take_of_length_le (by omega)
      rw [e] at HW
      go_wp2
      go_ret
      exact ⟨_, rfl, HW.out, hb⟩
end Nm
end Go.Proofs.YthmcjjfhfkcheaaDoor
