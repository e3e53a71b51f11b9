/- Rows of bytes: many cells at once; strings and their bytes. -/
import Derived.Test.YtolgiooddiolcaaRow
import Derived.PlainAid
import Derived.Lib.LazyBuf
import Derived.Lib.SliceRun
namespace Go.Proofs.Ytolgiooddiolcaa
namespace Byt
open Go.RowKit Go.PlainAid

theorem mix_next (f : Nat → Int) (a k : Nat) (h : Nat → Int) : mix (put f a (h 0)) (a + 1) k (fun i => h (i + 1)) = mix f a (k + 1) h := by
  funext i
  unfold mix put
  by_cases e : i = a
  · subst e
    rw [if_neg (by omega), if_pos rfl, if_pos (by omega), Nat.sub_self]
  · by_cases h' : a + 1 ≤ i ∧ i < a + 1 + k
    · rw [if_pos h', if_pos (by omega)]
      show h (i - (a + 1) + 1) = _
      rw [show i - (a + 1) + 1 = i - a by omega]
    · rw [if_neg h', if_neg e, if_neg (by omega)]
theorem tab_succ (k : Nat) (h : Nat → Int) : tab (k + 1) h = h 0 :: tab k (fun i => h (i + 1)) := by
  unfold tab
  rw [List.range_succ_eq_map, List.map_cons, List.map_map]
  rfl
theorem Row.many {g off n : Nat} : ∀ (k j : Nat) (h f : Nat → Int) (w : World), Row w g off n f → Row (w.setCells g (off + j) (bys (tab k h))) g off n (mix f j k h)
  | 0, j, h, f, w, hr => by rw [mix_zero]; exact hr
  | k + 1, j, h, f, w, hr => by
    rw [tab_succ]
    show Row ((w.setCell ⟨g, off + j, none⟩ (.int .u8 (h 0))).setCells g (off + j + 1) (bys (tab k fun i => h (i + 1)))) g off n _
    rw [← mix_next, Nat.add_assoc]
    exact Row.many k (j + 1) _ _ _ (hr.store j (h 0))
theorem only_many {a : World} {g : Nat} : ∀ (vs : List Value) (o : Nat) (w : World), a.grownBy w (some g) → a.grownBy (w.setCells g o vs) (some g)
  | [], _, _, h => h
  | v :: r, o, w, h => only_many r (o + 1) _ (only_store h o v)
theorem str_bys (s : ByteArray) : (s.data.toList.map fun x => Value.int .u8 (x.toNat : Int)) = bys (tab s.size (bt s)) := by
  unfold bys tab
  apply List.ext_getElem?
  intro i
  by_cases h : i < s.size
  · simp only [List.getElem?_map, List.getElem?_range h, Option.map_some]
    have h' : i < s.data.toList.length := by simpa using h
    rw [List.getElem?_eq_getElem h']
    simp only [Option.map_some, Option.some.injEq]
    congr 1
    rw [← get_bt s i h]
    rfl
  · rw [List.getElem?_eq_none (by simpa using h), List.getElem?_eq_none (by simpa using h)]
theorem zeros_bys (k : Nat) : List.replicate k (Value.int .u8 0) = bys (tab k fun _ => 0) := by
  unfold bys tab
  rw [List.map_map]
  apply List.ext_getElem
  · simp
  · intro i h1 h2
    simp
theorem strOf_bt (s : ByteArray) : strOf (tab s.size (bt s)) = s := by
  apply ByteArray.ext
  apply Array.toList_inj.1
  rw [strOf_data]
  unfold tab
  apply List.ext_getElem?
  intro i
  by_cases h : i < s.size
  · simp only [List.getElem?_map, List.getElem?_range h, Option.map_some]
    have h' : i < s.data.toList.length := by simpa using h
    rw [List.getElem?_eq_getElem h', ← get_bt s i h]
    simp
    rfl
  · rw [List.getElem?_eq_none (by simpa using h), List.getElem?_eq_none (by simpa using h)]
theorem bt_byte (s : ByteArray) (i : Nat) : 0 ≤ bt s i ∧ bt s i < 256 := ⟨bt_nonneg s i, by have := bt_le s i; omega⟩
theorem size_one : ∀ w, (Go.sizeOf 5).run Try.prog w = .ok 1 w := fun _ => by kernel_rfl
theorem zero_u8 : ∀ w, (zeroValue 5).run Try.prog w = .ok (.int .u8 0) w := fun _ => by kernel_rfl

/-- copy(p, s), s a text that fits -/
theorem run_copy_str (w : World) (ty : TypeId) (g off n dl dc : Nat) (f : Nat → Int) (s : ByteArray) (hr : Row w g off n f) (j : Nat) (hle : s.size ≤ dl) (hn : j + s.size ≤ n) :
    (Builtin.copy_ #[22, 9] ty #[.slice (some ⟨g, off + j, none⟩) dl dc, .string s]).run Try.prog w = .ok (goInt s.size) (w.setCells g (off + j) (bys (tab s.size (bt s)))) := by
  rw [run_copy_string w 22 9 ty 5 g (off + j) dl dc s bytes_slice size_one hle (fun i hi => by rw [Nat.add_assoc, hr.cell (by omega)]; rfl) (fun i _ => hr.free _), str_bys]
theorem run_copy_str0 (w : World) (ty : TypeId) (ao : Option Addr) (dl dc : Nat) (s : ByteArray) (h0 : s.size = 0) :
    (Builtin.copy_ #[22, 9] ty #[.slice ao dl dc, .string s]).run Try.prog w = .ok (goInt s.size) w := by
  obtain ⟨i, hi⟩ : ∃ i, Try.prog.info? 5 = some i := ⟨_, rfl⟩
  have hu : Try.prog.underlying 22 = some (.slice 5) := bytes_slice
  cases ao <;> simp [Builtin.copy_, run_underlying hu, Builtin.lenOf, Builtin.firstCells, sizeOf, typeInfo, hi, h0, storeCells]
theorem run_clear_none (w : World) (ty : TypeId) (ao : Option Addr) (n dc : Nat) (h0 : n = 0) :
    (Builtin.clear_ #[22] ty #[.slice ao n dc]).run Try.prog w = .ok (.tuple #[]) w := by
  subst h0
  have hu : Try.prog.underlying 22 = some (.slice 5) := bytes_slice
  cases ao <;> simp [Builtin.clear_, run_underlying hu]
theorem run_clear_bytes (w : World) (ty : TypeId) (g off n dl dc : Nat) (f : Nat → Int) (hr : Row w g off n f) (j : Nat) (hn : j + dl ≤ n) :
    (Builtin.clear_ #[22] ty #[.slice (some ⟨g, off + j, none⟩) dl dc]).run Try.prog w = .ok (.tuple #[]) (w.setCells g (off + j) (bys (tab dl fun _ => 0))) := by
  by_cases h0 : dl = 0
  · subst h0
    exact run_clear_none w ty _ 0 dc rfl
  rw [Lib.run_clear_slice w 22 5 ty (.int .u8 0) bytes_slice zero_u8 rfl rfl g (off + j) dl dc (by omega) (fun i hi => by rw [Nat.add_assoc, hr.cell (by omega)]; rfl) (fun i _ => hr.free _), zeros_bys]

end Byt
end Go.Proofs.Ytolgiooddiolcaa
