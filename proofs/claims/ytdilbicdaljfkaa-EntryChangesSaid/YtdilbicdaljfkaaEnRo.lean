/- Without, of the reference. -/
import Derived.Test.YtdilbicdaljfkaaEnRw
namespace Go.Proofs.Ytdilbicdaljfkaa
set_option maxRecDepth 20000
namespace En
open Go.RowKit Sha

theorem fil_next {l : List E} {x : T} {k : Nat} (h : k < l.length) : (l.take (k + 1)).filter (fun e => !(e.1 == x)) = (l.take k).filter (fun e => !(e.1 == x)) ++ (if (l[k].1 == x) = true then [] else [l[k]]) := by
  rw [List.take_add_one, List.getElem?_eq_getElem h, List.filter_append]
  congr 1
  by_cases e : (l[k].1 == x) = true <;> simp [e]
theorem fil_len (l : List E) (x : T) (k : Nat) : ((l.take k).filter (fun e => !(e.1 == x))).length ≤ k :=
  Nat.le_trans (List.length_filter_le _ _) (by rw [List.length_take]; omega)

set_option maxHeartbeats 8000000 in
theorem refwithout_any (l : List E) (x : T) (ao : Option Addr) (cap : Nat) (w : World) (h : LiesE w w.heap.size ao cap l) (hn : l.length ≤ 140737488355328) (hs : ∀ x ∈ l, x.1.length ≤ 140737488355328) :
    Calls Try.prog 27 #[.slice ao l.length cap, .string ⟨x.toArray⟩] w fun e w' => ∃ v, e = .returned (.tuple #[v, .int .i64 (oE l x)]) ∧ OwnE w' w.heap.size v (oV l x) ∧ Below w.heap.size w w' := by
  have HR := Lib.hid (refright_any l ao cap w h hn hs)
  have HL := Lib.hid (fun W2 (hb : Below w.heap.size w W2) => h.to hb hb.size)
  have HFI := Lib.hid (fun W2 (hb : Below w.heap.size w W2) => reffind_any l x ao cap W2 (HL.out W2 hb) hn)
  clear h hs
  by_cases h1 : rt l = true
  · have hle := rt_len h1
    rw [h1] at HR
    by_cases h4 : has l x = true
    · have e1 : oE l x = 0 := by simp [oE, h1, h4]
      have e2 : oV l x = l.filter (fun e => !(e.1 == x)) := by simp [oV, e1]
      rw [e1, e2]
      rw [show fdE l x = 0 by simp [fdE, h4]] at HFI
      generalize fdV l x = fv at HFI
      clear e1 e2 h1 h4
      go_enter Try.func27, Try.ntmps27
      go_wp2_with (first
        | (go_at_call 12; refine HR.out.mono ?_; rintro _ W1 ⟨rfl, hb1⟩)
        | (go_at_call 20; refine (HFI.out _ hb1).mono ?_; rintro _ _ ⟨rfl, rfl⟩)
        | go_in)
      have hl1 := HL.out W1 hb1
      have hbs1 := hb1.size
      clear HR HL HFI
      go_loopw [8, 9] (fun v i wr => ∃ k : Nat, k ≤ l.length ∧ i = .int .i64 k ∧ Hid (OwnE wr W1.heap.size v ((l.take k).filter (fun e => !(e.1 == x)))) ∧ Below W1.heap.size W1 wr) (fun _ i _ => l.length - (intOf i).toNat)
      case atStart => exact ⟨0, Nat.zero_le _, rfl, Lib.hid (OwnE.nil _ _), Below.refl _ _⟩
      case round =>
        obtain ⟨k, hk, rfl, HO, hb⟩ := hrel
        have hbs := hb.size
        by_cases hlt : k < l.length
        · obtain ⟨b, off, rfl, hbb, c0, c1⟩ := (hl1.below hb).get hlt
          have HNX := Lib.hid (fil_next (x := x) hlt)
          have hfl := fil_len l x k
          have hO := HO.out
          clear HO hl1
          generalize (l.take k).filter (fun e => !(e.1 == x)) = P at HNX hfl hO
          generalize l[k] = z at c0 c1 HNX
          obtain ⟨z, m⟩ := z
          simp only at c0 c1 HNX
          cases hz : (z == x) with
          | true =>
            rw [hz, if_pos rfl, List.append_nil] at HNX
            have HO2 := Lib.hid hO
            clear hO
            go_wp2
            go_roundw
            case rel => exact ⟨k + 1, by omega, by go_num, Lib.hid (by rw [HNX.out]; exact HO2.out), hb⟩
            case measure => simp [intOf]; omega
          | false =>
            rw [hz, if_neg (by decide)] at HNX
            go_wp2_with (first
              | (refine wpList_sliceE rfl (z, m) (.tmp 39) rfl rfl ?_; simp only [Act.put])
              | (at_builtin; refine wpList_appE rfl (.tmp 35) (.tmp 40) rfl W1.heap.size _ _ [(z, m)] rfl (by exact hO.alloc _) _ _ 1 1 rfl rfl (lies_own_new _ (z, m) rfl) (by simp only [List.length_cons, List.length_nil]; omega) (by simp; omega) ?_; intro v2 w2 hO2 hb2 _)
              | go_in)
            go_roundw
            case rel => exact ⟨k + 1, by omega, by go_num, Lib.hid (by rw [HNX.out]; exact hO2), hb.trans (((Below.refl _ _).alloc hbs _).trans hb2)⟩
            case measure => simp [intOf]; omega
        · obtain rfl : k = l.length := by omega
          rw [List.take_length] at HO
          clear hl1
          go_wp2
          refine bodyPost_ret (results_2 rfl rfl rfl) rfl ?_
          exact ⟨_, rfl, HO.out.less hbs1, hb1.trans (hb.mono hbs1)⟩
    · have h4' : has l x = false := by simpa using h4
      have e1 : oE l x = 4 := by simp [oE, h1, h4']
      have e2 : oV l x = [] := by simp [oV, e1]
      rw [e1, e2]
      rw [show fdE l x = 4 by simp [fdE, h4']] at HFI
      generalize fdV l x = fv at HFI
      clear e1 e2 h1 h4 h4'
      go_enter Try.func27, Try.ntmps27
      go_wp2_with (first
        | (go_at_call 12; refine HR.out.mono ?_; rintro _ W1 ⟨rfl, hb1⟩)
        | (go_at_call 20; refine (HFI.out _ hb1).mono ?_; rintro _ _ ⟨rfl, rfl⟩)
        | go_in)
      refine bodyPost_ret (results_2 rfl rfl rfl) rfl ?_
      exact ⟨_, rfl, OwnE.nil _ _, hb1⟩
  · have h1' : rt l = false := by simpa using h1
    have e1 : oE l x = 1 := by simp [oE, h1']
    have e2 : oV l x = [] := by simp [oV, e1]
    rw [e1, e2]
    rw [h1'] at HR
    go_enter Try.func27, Try.ntmps27
    go_wp2_with (go_at_call 12; refine HR.out.mono ?_; rintro _ W1 ⟨rfl, hb1⟩)
    refine bodyPost_ret (results_2 rfl rfl rfl) rfl ?_
    exact ⟨_, rfl, OwnE.nil _ _, hb1⟩
end En
end Go.Proofs.Ytdilbicdaljfkaa
