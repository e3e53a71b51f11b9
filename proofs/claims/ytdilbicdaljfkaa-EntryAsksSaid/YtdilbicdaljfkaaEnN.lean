/- Names, of the code and of the reference; EntryAsks. -/
import Derived.Test.YtdilbicdaljfkaaEnF
import Derived.Test.YtdilbicdaljfkaaEnL
namespace Go.Proofs.Ytdilbicdaljfkaa
set_option maxRecDepth 20000
namespace En
open Go.RowKit

set_option maxHeartbeats 4000000 in
theorem names_any (l : List E) (node : Int) (ao : Option Addr) (cap : Nat) (w : World) (h : LiesE w w.heap.size ao cap l) (hn : l.length * 24 ≤ 140737488355328) (hs : ∀ x ∈ l, x.1.length ≤ 140737488355328) :
    Calls Try.prog 22 #[.slice ao l.length cap, .int .i64 node] w fun e w' => ∃ v, e = .returned v ∧ Own w' w.heap.size v (nms l node) ∧ Below w.heap.size w w' := by
  go_enter Try.func22, Try.ntmps22
  go_wp2
  go_loopw [5, 10] (fun v i wr => ∃ k : Nat, k ≤ l.length ∧ i = .int .i64 k ∧ Hid (Own wr w.heap.size v (nms (l.take k) node)) ∧ Below w.heap.size w wr) (fun _ i _ => l.length - (intOf i).toNat)
  case atStart => exact ⟨0, Nat.zero_le _, rfl, Lib.hid (Own.nil _ _), Below.refl _ _⟩
  case round =>
    obtain ⟨k, hk, rfl, HO, hb⟩ := hrel
    have hbs := hb.size
    by_cases hlt : k < l.length
    · obtain ⟨b, off, rfl, hbb, c0, c1⟩ := (h.below hb).get hlt
      have HNX := Lib.hid (nms_next (node := node) hlt)
      have hlen := nms_len l node k
      have hxl := hs _ (List.getElem_mem hlt)
      clear h hs
      generalize l[k] = x at c0 c1 HNX hxl
      obtain ⟨x, m⟩ := x
      simp only at c0 c1 HNX hxl
      have HCL := Lib.hid (fun W => clone_any x W hxl)
      generalize nms (l.take k) node = P at HO HNX hlen
      have hO := HO.out
      clear HO
      by_cases hm : m = node
      · subst hm
        rw [if_pos rfl] at HNX
        go_wp2_with (first
          | (go_at_call 34; refine (HCL.out _).mono ?_; rintro _ w1 ⟨rfl, hb1⟩
             simp only [World.size_alloc] at hb1
             have hO1 := (hO.alloc (.cells #[.string ⟨x.toArray⟩, .int .i64 m] 44)).below hb1 (by simp)
             have hB1 := (hb.alloc hbs (.cells #[.string ⟨x.toArray⟩, .int .i64 m] 44)).trans (hb1.mono (by omega))
             have hsz1 := hB1.size)
          | (at_builtin; refine wpList_app rfl (.tmp 18) (.tmp 22) rfl w.heap.size _ _ rfl (hO1.alloc _) x w1.heap.size 1 rfl (by simp) (by omega) (by simp only [World.size_alloc]; omega) ?_; intro v2 w2 hO2 hb2)
          | go_in)
        go_roundw
        case rel => exact ⟨k + 1, by omega, by go_num, Lib.hid (by rw [HNX.out]; exact hO2), hB1.trans (((Below.refl _ _).alloc hsz1 _).trans hb2)⟩
        case measure => simp [intOf]; omega
      · rw [if_neg hm, List.append_nil] at HNX
        have h1 : (m == node) = false := by simp [hm]
        have HO2 := Lib.hid (hO.alloc (.cells #[.string ⟨x.toArray⟩, .int .i64 m] 44))
        have HB2 := Lib.hid (hb.alloc hbs (.cells #[.string ⟨x.toArray⟩, .int .i64 m] 44))
        clear hO HCL
        go_wp2
        go_roundw
        case rel => exact ⟨k + 1, by omega, by go_num, Lib.hid (by rw [HNX.out]; exact HO2.out), HB2.out⟩
        case measure => simp [intOf]; omega
    · obtain rfl : k = l.length := by omega
      rw [List.take_length] at HO
      clear h hs
      go_wp2
      go_ret
      exact ⟨_, rfl, HO.out, hb⟩

set_option maxHeartbeats 4000000 in
theorem refnames_any (l : List E) (node : Int) (ao : Option Addr) (cap : Nat) (w : World) (h : LiesE w w.heap.size ao cap l) (hn : l.length * 24 ≤ 140737488355328) :
    Calls Try.prog 23 #[.slice ao l.length cap, .int .i64 node] w fun e w' => ∃ v, e = .returned v ∧ Own w' w.heap.size v (nms l node) ∧ Below w.heap.size w w' := by
  go_enter Try.func23, Try.ntmps23
  go_wp2
  go_loopw [5, 6] (fun v i wr => ∃ k : Nat, k ≤ l.length ∧ i = .int .i64 k ∧ Hid (Own wr w.heap.size v (nms (l.take k) node)) ∧ Below w.heap.size w wr) (fun _ i _ => l.length - (intOf i).toNat)
  case atStart => exact ⟨0, Nat.zero_le _, rfl, Lib.hid (Own.nil _ _), Below.refl _ _⟩
  case round =>
    obtain ⟨k, hk, rfl, HO, hb⟩ := hrel
    have hbs := hb.size
    by_cases hlt : k < l.length
    · obtain ⟨b, off, rfl, hbb, c0, c1⟩ := (h.below hb).get hlt
      have HNX := Lib.hid (nms_next (node := node) hlt)
      have hlen := nms_len l node k
      clear h
      generalize l[k] = x at c0 c1 HNX
      obtain ⟨x, m⟩ := x
      simp only at c0 c1 HNX
      generalize nms (l.take k) node = P at HO HNX hlen
      have hO := HO.out
      clear HO
      by_cases hm : m = node
      · subst hm
        rw [if_pos rfl] at HNX
        go_wp2_with (at_builtin; refine wpList_app rfl (.tmp 20) (.tmp 26) rfl w.heap.size _ _ rfl (hO.alloc _) x wr.heap.size 1 rfl (by simp) (by omega) (by simp only [World.size_alloc]; omega) ?_; intro v2 w2 hO2 hb2)
        go_roundw
        case rel => exact ⟨k + 1, by omega, by go_num, Lib.hid (by rw [HNX.out]; exact hO2), hb.trans (((Below.refl _ _).alloc hbs _).trans hb2)⟩
        case measure => simp [intOf]; omega
      · rw [if_neg hm, List.append_nil] at HNX
        have h1 : (m == node) = false := by simp [hm]
        have HO2 := Lib.hid hO
        clear hO
        go_wp2
        go_roundw
        case rel => exact ⟨k + 1, by omega, by go_num, Lib.hid (by rw [HNX.out]; exact HO2.out), hb⟩
        case measure => simp [intOf]; omega
    · obtain rfl : k = l.length := by omega
      rw [List.take_length] at HO
      clear h
      go_wp2
      go_ret
      exact ⟨_, rfl, HO.out, hb⟩

set_option maxHeartbeats 4000000 in
theorem entryasks_any (l : List E) (n : T) (node : Int) (ao : Option Addr) (cap : Nat) (w : World) (h : LiesE w w.heap.size ao cap l) (hn : l.length * 24 ≤ 140737488355328) (hs : ∀ x ∈ l, x.1.length ≤ 140737488355328) :
    Calls Try.prog 5 #[.slice ao l.length cap, .string ⟨n.toArray⟩, .int .i64 node] w fun e w' => e = .returned (.bool true) ∧ Below w.heap.size w w' := by
  have HA := Lib.hid (alive_any w)
  have HL := Lib.hid (fun W (hb : Below w.heap.size w W) => h.to hb hb.size)
  have HF := Lib.hid (fun W (hb : Below w.heap.size w W) => find_any l n ao cap W (HL.out W hb) (by omega))
  have HR := Lib.hid (fun W (hb : Below w.heap.size w W) => reffind_any l n ao cap W (HL.out W hb) (by omega))
  have HN := Lib.hid (fun W (hb : Below w.heap.size w W) => names_any l node ao cap W (HL.out W hb) hn hs)
  have HM := Lib.hid (fun W (hb : Below w.heap.size w W) => refnames_any l node ao cap W (HL.out W hb) hn)
  have hlen := nms_len l node l.length
  rw [List.take_length] at hlen
  generalize nms l node = P at HN HM hlen
  generalize fdV l n = V at HF HR
  generalize fdE l n = c at HF HR
  have HE := Lib.hid (fun (ao bo : Option Addr) (c1 c2 : Nat) (W : World) (h1 : At W W.heap.size ao c1 P) (h2 : At W W.heap.size bo c2 P) => (sameT_any P P ao bo c1 c2 W h1 h2 (by omega) (by omega)).mono fun e w' (h : _ ∧ _) => And.intro (h.1.trans (by rw [decide_eq_true rfl]) : e = .returned (.bool true)) h.2)
  clear h hn hs hlen
  go_enter Try.func5, Try.ntmps5
  go_wp2_with (first
    | (go_at_call 8; refine HA.out.mono ?_; rintro _ w1 ⟨rfl, hb1⟩)
    | (go_at_call 19; refine (HF.out w1 hb1).mono ?_; rintro _ w2 ⟨rfl, hb2⟩; have hB2 := hb1.trans (hb2.mono hb1.size))
    | (go_at_call 20; refine (HR.out w2 hB2).mono ?_; rintro _ _ ⟨rfl, rfl⟩)
    | (go_at_call 22; refine (HN.out w2 hB2).mono ?_; rintro _ w3 ⟨v3, rfl, hO3, hb3⟩; obtain ⟨bo, c3, rfl, hA3, _, _⟩ := hO3.slice; have hB3 := hB2.trans (hb3.mono hB2.size); clear hO3)
    | (go_at_call 23; refine (HM.out w3 hB3).mono ?_; rintro _ w4 ⟨v4, rfl, hO4, hb4⟩; obtain ⟨co, c4, rfl, hA4, _, _⟩ := hO4.slice; have hB4 := hB3.trans (hb4.mono hB3.size); have hA34 := (hA3.below hb4 (Nat.le_refl _)).more hb4.size; clear hO4 hA3)
    | (go_at_call 21; refine (HE.out bo co c3 c4 w4 hA34 hA4).mono ?_; rintro _ w5 ⟨rfl, hb5⟩; have hB5 := hB4.trans (hb5.mono hB4.size))
    | go_in)
  go_ret
  exact ⟨rfl, by assumption⟩
end En
end Go.Proofs.Ytdilbicdaljfkaa
