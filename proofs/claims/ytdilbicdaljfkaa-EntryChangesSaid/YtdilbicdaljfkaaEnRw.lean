/- With and Without, of the reference (made by tools/gen_enrw.py). -/
import Derived.Test.YtdilbicdaljfkaaEnRr
import Derived.Test.YtdilbicdaljfkaaEnF
namespace Go.Proofs.Ytdilbicdaljfkaa
set_option maxRecDepth 20000
namespace En
open Go.RowKit Sha

/-- the list under way, with x at p -/
def wk (l : List E) (x : E) (p k : Nat) : List E := if k ≤ p then l.take k else l.take p ++ x :: (l.take k).drop p
theorem wk_low {l : List E} {x : E} {p k : Nat} (hk : k < l.length) (h : k < p) : wk l x p (k + 1) = wk l x p k ++ [l[k]] := by
  unfold wk
  rw [if_pos (by omega), if_pos (by omega), List.take_add_one, List.getElem?_eq_getElem hk]
  rfl
theorem wk_at {l : List E} {x : E} {p : Nat} (hk : p < l.length) : wk l x p (p + 1) = wk l x p p ++ [x] ++ [l[p]] := by
  unfold wk
  rw [if_neg (by omega), if_pos (Nat.le_refl _), List.drop_take, show p + 1 - p = 1 by omega, List.append_assoc]
  congr 1
  rw [List.drop_eq_getElem_cons hk]
  rfl
theorem wk_up {l : List E} {x : E} {p k : Nat} (hk : k < l.length) (h : p < k) : wk l x p (k + 1) = wk l x p k ++ [l[k]] := by
  unfold wk
  rw [if_neg (by omega), if_neg (by omega), List.take_add_one, List.getElem?_eq_getElem hk, List.append_assoc]
  congr 1
  rw [List.drop_append_of_le_length (by rw [List.length_take]; omega)]
  rfl
theorem wk_len (l : List E) (x : E) (p k : Nat) : (wk l x p k).length ≤ l.length + 1 := by
  unfold wk
  split
  · rw [List.length_take]; omega
  · rw [List.length_append, List.length_cons, List.length_drop, List.length_take, List.length_take]
    omega
theorem wk_end {l : List E} {x : E} {p : Nat} (hp : p < l.length) : wk l x p l.length = l.take p ++ x :: l.drop p := by
  unfold wk
  rw [if_neg (by omega), List.take_length]
theorem wk_end0 {l : List E} {x : E} : wk l x l.length l.length ++ [x] = l.take l.length ++ x :: l.drop l.length := by
  unfold wk
  rw [if_pos (Nat.le_refl _), List.drop_length]
theorem pos_lt {n : T} : ∀ {l : List E} {k : Nat} (hk : k < l.length), k < pos l n → lt l[k].1 n = true
  | [], k, hk, _ => by simp at hk
  | x :: l, k, hk, hp => by
    rw [pos_cons] at hp
    by_cases hx : lt x.1 n = true
    · rw [if_pos hx] at hp
      match k, hk, hp with
      | 0, _, _ => exact hx
      | k + 1, hk, hp => exact pos_lt (l := l) (k := k) (by simpa using hk) (by omega)
    · rw [if_neg hx] at hp
      omega
theorem pos_ge {l : List E} {n : T} (hp : pos l n < l.length) : lt l[pos l n].1 n = false := by
  have : ∀ {l : List E} (hp : pos l n < l.length), lt l[pos l n].1 n = false := by
    intro l
    induction l with
    | nil => intro hp; simp at hp
    | cons x l ih =>
      intro hp
      have e := pos_cons x l n
      by_cases hx : lt x.1 n = true
      · rw [if_pos hx] at e
        have h2 : pos l n < l.length := by rw [e] at hp; simpa using hp
        have h3 := ih h2
        have : (x :: l)[pos (x :: l) n] = l[pos l n] := by simp [e]
        rw [this]
        exact h3
      · rw [if_neg hx] at e
        have : (x :: l)[pos (x :: l) n] = x := by simp [e]
        rw [this]
        simpa using hx
  exact this hp
theorem no_name {l : List E} {n : T} (h : has l n = false) {k : Nat} (hk : k < l.length) : (l[k].1 == n) = false := by
  unfold has at h
  rw [List.any_eq_false] at h
  simpa using h l[k] (List.getElem_mem hk)

set_option maxHeartbeats 8000000 in
theorem refwith_any (l : List E) (x0 : E) (ao : Option Addr) (cap : Nat) (w : World) (h : LiesE w w.heap.size ao cap l) (hn : l.length ≤ 140737488355328) (hs : ∀ x ∈ l, x.1.length ≤ 140737488355328) (hxl : x0.1.length ≤ 140737488355328) :
    Calls Try.prog 25 #[.slice ao l.length cap, .agg (eV x0).toArray] w fun e w' => ∃ v, e = .returned (.tuple #[v, .int .i64 (wE l x0)]) ∧ OwnE w' w.heap.size v (wV l x0) ∧ Below w.heap.size w w' := by
  have HW : Hid (wE l x0 = if rt l = false then 1 else if valid x0.1 = false then 12 else if num x0.2 = false then 1 else if has l x0.1 = true then 5 else if l.length = 40 then 14 else 0) := Lib.hid rfl
  have HV : Hid (wV l x0 = if wE l x0 = 0 then ins l x0 else []) := Lib.hid rfl
  generalize wV l x0 = V at HV ⊢
  generalize wE l x0 = c at HW HV ⊢
  obtain ⟨x, n⟩ := x0
  simp only at HW hxl
  show Calls Try.prog 25 #[.slice ao l.length cap, .agg #[.string ⟨x.toArray⟩, .int .i64 n]] w _
  obtain ⟨W, hW⟩ : ∃ W, W = w.alloc (.cells #[.string ⟨x.toArray⟩, .int .i64 n] 44) := ⟨_, rfl⟩
  have hb0 : Below w.heap.size w W := by rw [hW]; exact (Below.refl _ _).alloc (Nat.le_refl _) _
  have hs0 : W.heap.size = w.heap.size + 1 := by rw [hW]; simp
  have hws : w.heap.size ≤ W.heap.size := by omega
  have x0 : W.cell? ⟨w.heap.size, 0, none⟩ = some (.string ⟨x.toArray⟩) := by rw [hW, cell_of_row _ _ _ _ _ _ (heap_alloc_new w _)]; rfl
  have x1 : W.cell? ⟨w.heap.size, 1, none⟩ = some (.int .i64 n) := by rw [hW, cell_of_row _ _ _ _ _ _ (heap_alloc_new w _)]; rfl
  have hl0 := h.to hb0 hws
  have HX := Lib.hid (fun W2 (hb : Below W.heap.size W W2) => And.intro ((hb.cell (p := ⟨w.heap.size, 0, none⟩) (show w.heap.size < W.heap.size by omega)).trans x0) ((hb.cell (p := ⟨w.heap.size, 1, none⟩) (show w.heap.size < W.heap.size by omega)).trans x1))
  have HL := Lib.hid (fun W2 (hb : Below W.heap.size W W2) => hl0.to hb hb.size)
  have HB := Lib.hid (fun W2 (hb : Below W.heap.size W W2) => hb0.trans (hb.mono hws))
  have HFI := Lib.hid (reffind_any l x ao cap W hl0 hn)
  have HR := Lib.hid (fun W2 (hb : Below W.heap.size W W2) => refright_any l ao cap W2 (HL.out W2 hb) hn hs)
  have HVA := Lib.hid (fun W => (refvalid_any x W hxl).mono fun e w' (h : _ ∧ _) => And.intro h.1 h.2.symm)
  have hfe : Hid (fdE l x = if has l x = true then 0 else 4) := Lib.hid rfl
  generalize fdV l x = fv at HFI
  generalize fdE l x = fe at HFI hfe
  clear h hl0 hb0 hs hxl
  go_enter Try.func25, Try.ntmps25
  go_wp2_with fail
  rw [← hW]
  clear hW
  refine HFI.out.mono ?_
  rintro _ _ ⟨rfl, rfl⟩
  have hbW := Below.refl W.heap.size W
  go_wp2_with fail
  refine (HR.out W hbW).mono ?_
  rintro _ W1 ⟨rfl, hb1⟩
  obtain ⟨y0, y1⟩ := HX.out W1 hb1
  clear HFI HR hbW x0 x1
  by_cases h1 : rt l = true
  · rw [h1]
    have hle := rt_len h1
    by_cases h2 : valid x = true
    · rw [h2] at HVA
      by_cases hn1 : n < 1
      · have h3' : num n = false := by simp [num]; omega
        have hd1 : decide (n < 1) = true := by simpa using hn1
        obtain ⟨rfl, rfl⟩ : c = 1 ∧ V = [] := by
          have e : c = 1 := by rw [HW.out]; simp [h1, h2, h3']
          exact ⟨e, by rw [HV.out, if_neg (by omega)]⟩
        clear HW HV h1 h2 h3' hfe
        go_wp2_with (go_at_call 30; refine (HVA.out _).mono ?_; rintro _ _ ⟨rfl, rfl⟩)
        refine bodyPost_ret (results_2 rfl rfl rfl) rfl ?_
        exact ⟨_, rfl, OwnE.nil _ _, HB.out _ hb1⟩
      by_cases hn2 : 64 < n
      · have h3' : num n = false := by simp [num]; omega
        have hd1 : decide (n < 1) = false := by simp; omega
        have hd2 : decide (64 < n) = true := by simpa using hn2
        obtain ⟨rfl, rfl⟩ : c = 1 ∧ V = [] := by
          have e : c = 1 := by rw [HW.out]; simp [h1, h2, h3']
          exact ⟨e, by rw [HV.out, if_neg (by omega)]⟩
        clear HW HV h1 h2 h3' hfe
        go_wp2_with (go_at_call 30; refine (HVA.out _).mono ?_; rintro _ _ ⟨rfl, rfl⟩)
        refine bodyPost_ret (results_2 rfl rfl rfl) rfl ?_
        exact ⟨_, rfl, OwnE.nil _ _, HB.out _ hb1⟩
      have h3 : num n = true := by simp [num]; omega
      have hd1 : decide (n < 1) = false := by simp; omega
      have hd2 : decide (64 < n) = false := by simp; omega
      clear hn1 hn2
      by_cases h4 : has l x = true
      · obtain rfl : fe = 0 := by rw [hfe.out, if_pos h4]
        clear hfe
        obtain ⟨rfl, rfl⟩ : c = 5 ∧ V = [] := by
          have e : c = 5 := by rw [HW.out]; simp [h1, h2, h3, h4]
          exact ⟨e, by rw [HV.out, if_neg (by omega)]⟩
        clear HW HV h1 h2 h3 h4
        go_wp2_with (go_at_call 30; refine (HVA.out _).mono ?_; rintro _ _ ⟨rfl, rfl⟩)
        refine bodyPost_ret (results_2 rfl rfl rfl) rfl ?_
        exact ⟨_, rfl, OwnE.nil _ _, HB.out _ hb1⟩
      · have h4' : has l x = false := by simpa using h4
        obtain rfl : fe = 4 := by rw [hfe.out, if_neg h4]
        clear hfe
        by_cases h5 : l.length = 40
        · obtain ⟨rfl, rfl⟩ : c = 14 ∧ V = [] := by
            have e : c = 14 := by rw [HW.out]; simp [h1, h2, h3, h4', h5]
            exact ⟨e, by rw [HV.out, if_neg (by omega)]⟩
          clear HW HV h1 h2 h3 h4 h4'
          go_wp2_with (go_at_call 30; refine (HVA.out _).mono ?_; rintro _ _ ⟨rfl, rfl⟩)
          refine bodyPost_ret (results_2 rfl rfl rfl) rfl ?_
          exact ⟨_, rfl, OwnE.nil _ _, HB.out _ hb1⟩
        · have hq : (((l.length : Nat) : Int) == 40) = false := by simp; omega
          obtain ⟨rfl, hVi⟩ : c = 0 ∧ V = ins l (x, n) := by
            have e : c = 0 := by rw [HW.out]; simp [h1, h2, h3, h4', h5]
            exact ⟨e, by rw [HV.out, if_pos e]⟩
          have HVI : Hid (V = l.take (pos l x) ++ (x, n) :: l.drop (pos l x)) := Lib.hid hVi
          have HNO := Lib.hid (fun k (hk : k < l.length) => no_name h4' hk)
          have HPL := Lib.hid (fun k (hk : k < l.length) (hp : k < pos l x) => pos_lt hk hp)
          have HPG := Lib.hid (fun (hp : pos l x < l.length) => pos_ge (n := x) hp)
          have hpl := pos_le l x
          have hl1 := HL.out W1 hb1
          clear HW HV h1 h2 h3 h4 h4' h5 hVi HL
          generalize pos l x = p at HVI HPL HPG hpl
          go_wp2_with (go_at_call 30; refine (HVA.out _).mono ?_; rintro _ _ ⟨rfl, rfl⟩)
          clear y0 y1 HVA
          have hbs1 := hb1.size
          go_loopw [8, 9, 10] (fun v f i wr => ∃ k : Nat, k ≤ l.length ∧ i = .int .i64 k ∧ f = .bool (decide (p < k)) ∧ Hid (OwnE wr W1.heap.size v (wk l (x, n) p k)) ∧ Below W1.heap.size W1 wr) (fun _ _ i _ => l.length - (intOf i).toNat)
          case atStart => exact ⟨0, Nat.zero_le _, rfl, by simp, Lib.hid (by unfold wk; rw [if_pos (Nat.zero_le _)]; exact OwnE.nil _ _), Below.refl _ _⟩
          case round =>
            obtain ⟨k, hk, rfl, rfl, HO, hb⟩ := hrel
            have hbs := hb.size
            have hBB := hb1.trans (hb.mono hbs1)
            obtain ⟨y0, y1⟩ := HX.out wr hBB
            have hwl := wk_len l (x, n) p k
            have hO := HO.out
            clear HO
            by_cases hlt : k < l.length
            · obtain ⟨b, off, rfl, hbb, c0, c1⟩ := (hl1.below hb).get hlt
              have hnn := HNO.out k hlt
              have HPLk := HPL.out k hlt
              by_cases hkp : p < k
              · have HNX := Lib.hid (wk_up (x := (x, n)) hlt hkp)
                have hd : decide (p < k) = true := by simpa using hkp
                have hd2 : decide (p < k + 1) = true := by simp; omega
                rw [hd]
                clear hl1 HNO HPL HPG HPLk hd HX
                generalize l[k] = z at c0 c1 HNX hnn
                obtain ⟨z, m⟩ := z
                simp only at c0 c1 hnn
                go_wp2
                go_quiet (fail)
                go_wp2_with (first
                  | (refine wpList_sliceE rfl (z, m) (.tmp 69) rfl rfl ?_; simp only [Act.put])
                  | (at_builtin; refine wpList_appE rfl (.tmp 65) (.tmp 70) rfl W1.heap.size _ _ [(z, m)] rfl (by exact (hO.below (below_drewN (Below.refl wr.heap.size wr) nq) (Nat.le_refl _)).alloc _) _ _ 1 1 rfl rfl (lies_own_new _ (z, m) rfl) (by simp only [List.length_cons, List.length_nil]; omega) (by simp; omega) ?_; intro v2 w2 hO2 hb2 _)
                  | go_in)
                go_roundw
                case rel => exact ⟨k + 1, by omega, by go_num, by rw [hd2], Lib.hid (by rw [HNX.out]; exact hO2), hb.trans (((below_drewN (Below.refl W1.heap.size wr) nq).alloc (by simp; omega) _).trans hb2)⟩
                case measure => simp [intOf]; omega
              · have hd : decide (p < k) = false := by simpa using hkp
                rw [hd]
                by_cases hkp2 : k = p
                · have HNX : Hid (wk l (x, n) p (k + 1) = wk l (x, n) p k ++ [(x, n)] ++ [l[k]]) := Lib.hid (by subst hkp2; exact wk_at hlt)
                  have hlz : Op.bytesLess l[k].1 x = false := by subst hkp2; exact HPG.out hlt
                  have hd2 : decide (p < k + 1) = true := by simp; omega
                  clear hl1 HNO HPL HPG HPLk hd HX hkp hkp2
                  generalize l[k] = z at c0 c1 HNX hnn hlz
                  obtain ⟨z, m⟩ := z
                  simp only at c0 c1 hnn hlz
                  have HC := Lib.hid (fun W2 (hB2 : Below W1.heap.size wr W2) => And.intro ((hB2.cell (p := ⟨b, off + k * 2, none⟩) hbb).trans c0) ((hB2.cell (p := ⟨b, off + k * 2 + 1, none⟩) hbb).trans c1))
                  go_wp2
                  go_quiet (fail)
                  go_wp2_with (first
                    | (refine wpList_sliceE rfl (x, n) (.tmp 62) rfl rfl ?_; simp only [Act.put])
                    | (at_builtin; refine wpList_appE rfl (.tmp 61) (.tmp 63) rfl W1.heap.size _ _ [(x, n)] rfl (by exact (hO.below (below_drewN (Below.refl wr.heap.size wr) nq) (Nat.le_refl _)).alloc _) _ _ 1 1 rfl rfl (lies_own_new _ (x, n) rfl) (by simp only [List.length_cons, List.length_nil]; omega) (by simp; omega) ?_
                       intro v2 w2 hO2 hb2 _
                       have hB2 := (((below_drewN (Below.refl W1.heap.size wr) nq).alloc (by simp; omega) _).trans hb2)
                       obtain ⟨c0', c1'⟩ := HC.out w2 hB2
                       have hsz2 := hB2.size)
                    | (refine wpList_sliceE rfl (z, m) (.tmp 69) rfl rfl ?_; simp only [Act.put])
                    | (at_builtin; refine wpList_appE rfl (.tmp 65) (.tmp 70) rfl W1.heap.size _ _ [(z, m)] rfl (by exact hO2.alloc _) _ _ 1 1 rfl rfl (lies_own_new _ (z, m) rfl) (by simp only [List.length_append, List.length_cons, List.length_nil]; omega) (by simp; omega) ?_; intro v3 w3 hO3 hb3 _)
                    | go_in)
                  go_roundw
                  case rel => exact ⟨k + 1, by omega, by go_num, by rw [hd2], Lib.hid (by rw [HNX.out]; exact hO3), hb.trans (hB2.trans (((Below.refl _ _).alloc (by omega) _).trans hb3))⟩
                  case measure => simp [intOf]; omega
                · have HNX := Lib.hid (wk_low (x := (x, n)) hlt (show k < p by omega))
                  have hlz : Op.bytesLess l[k].1 x = true := HPLk (by omega)
                  have hd2 : decide (p < k + 1) = false := by simp; omega
                  clear hl1 HNO HPL HPG HPLk hd HX hkp
                  generalize l[k] = z at c0 c1 HNX hnn hlz
                  obtain ⟨z, m⟩ := z
                  simp only at c0 c1 hnn hlz
                  go_wp2
                  go_quiet (fail)
                  go_wp2_with (first
                    | (refine wpList_sliceE rfl (z, m) (.tmp 69) rfl rfl ?_; simp only [Act.put])
                    | (at_builtin; refine wpList_appE rfl (.tmp 65) (.tmp 70) rfl W1.heap.size _ _ [(z, m)] rfl (by exact (hO.below (below_drewN (Below.refl wr.heap.size wr) nq) (Nat.le_refl _)).alloc _) _ _ 1 1 rfl rfl (lies_own_new _ (z, m) rfl) (by simp only [List.length_cons, List.length_nil]; omega) (by simp; omega) ?_; intro v2 w2 hO2 hb2 _)
                    | go_in)
                  go_roundw
                  case rel => exact ⟨k + 1, by omega, by go_num, by rw [hd2], Lib.hid (by rw [HNX.out]; exact hO2), hb.trans (((below_drewN (Below.refl W1.heap.size wr) nq).alloc (by simp; omega) _).trans hb2)⟩
                  case measure => simp [intOf]; omega
            · obtain rfl : k = l.length := by omega
              clear hl1 HNO HPL HPG hlt
              by_cases hp : p < l.length
              · rw [wk_end hp] at hO
                rw [← HVI.out] at hO
                have hd : decide (p < l.length) = true := by simpa using hp
                rw [hd]
                clear hd hp HVI hwl
                go_wp2
                refine bodyPost_ret (results_2 rfl rfl rfl) rfl ?_
                exact ⟨_, rfl, hO.less (by have := hb1.size; omega), HB.out _ hBB⟩
              · obtain rfl : p = l.length := by omega
                have hd : decide (l.length < l.length) = false := by simp
                rw [hd]
                have HVE : Hid (V = wk l (x, n) l.length l.length ++ [(x, n)]) := Lib.hid (by rw [wk_end0, HVI.out])
                clear hd hp HVI
                go_wp2_with (first
                  | (refine wpList_sliceE rfl (x, n) (.tmp 75) rfl rfl ?_; simp only [Act.put])
                  | (at_builtin; refine wpList_appE rfl (.tmp 74) (.tmp 76) rfl W1.heap.size _ _ [(x, n)] rfl (by exact hO.alloc _) _ _ 1 1 rfl rfl (lies_own_new _ (x, n) rfl) (by simp only [List.length_cons, List.length_nil]; omega) (by simp; omega) ?_; intro v2 w2 hO2 hb2 _)
                  | go_in)
                refine bodyPost_ret (results_2 rfl rfl rfl) rfl ?_
                rw [HVE.out]
                exact ⟨_, rfl, hO2.less (by have := hb1.size; omega), HB.out _ (hBB.trans ((((Below.refl W1.heap.size wr).alloc hbs _).trans hb2).mono hbs1))⟩
    · have h2' : valid x = false := by simpa using h2
      rw [h2'] at HVA
      obtain ⟨rfl, rfl⟩ : c = 12 ∧ V = [] := by
        have e : c = 12 := by rw [HW.out]; simp [h1, h2']
        exact ⟨e, by rw [HV.out, if_neg (by omega)]⟩
      clear HW HV h1 h2 h2' hfe
      go_wp2_with (go_at_call 30; refine (HVA.out _).mono ?_; rintro _ _ ⟨rfl, rfl⟩)
      refine bodyPost_ret (results_2 rfl rfl rfl) rfl ?_
      exact ⟨_, rfl, OwnE.nil _ _, HB.out _ hb1⟩
  · have h1' : rt l = false := by simpa using h1
    rw [h1']
    obtain ⟨rfl, rfl⟩ : c = 1 ∧ V = [] := by
      have e : c = 1 := by rw [HW.out]; simp [h1']
      exact ⟨e, by rw [HV.out, if_neg (by omega)]⟩
    clear HW HV h1 h1' hfe
    go_wp2
    refine bodyPost_ret (results_2 rfl rfl rfl) rfl ?_
    exact ⟨_, rfl, OwnE.nil _ _, HB.out _ hb1⟩
end En
end Go.Proofs.Ytdilbicdaljfkaa
