import Derived.Test.YtonhedefjmkpcaaGreatDoorPSpPlc
import Derived.Test.YtonhedefjmkpcaaGreatDoorPAl
/- space: Drop, Mark (made by tools/gen_spdr.py). -/
namespace Go.Proofs.YtonhedefjmkpcaaGreatDoor
set_option maxRecDepth 20000
namespace Sp
open Go.RowKit Dk Eqb Byt

def PcV (A B Z : Int) (p : Pt.Pn) (base : Nat) (v : Value) (w : World) : Prop := plB A B Z p = true → OwnI w base v (pls A B Z p)
def PcT (A B Z : Int) (p : Pt.Pn) (base : Nat) (u : Value) (w : World) : Prop := ∃ v, u = .tuple #[v, .bool (plB A B Z p)] ∧ PcV A B Z p base v w
theorem PcV.below {A B Z : Int} {p : Pt.Pn} {base : Nat} {v : Value} {w w' : World} (h : PcV A B Z p base v w) (hb : Below w.heap.size w w') : PcV A B Z p base v w' := fun e => (h e).below hb
theorem PcT.below {A B Z : Int} {p : Pt.Pn} {base : Nat} {v : Value} {w w' : World} (h : PcT A B Z p base v w) (hb : Below w.heap.size w w') : PcT A B Z p base v w' := by
 obtain ⟨v, e, hv⟩ := h
 exact ⟨v, e, hv.below hb⟩
/-- l, ok := places(*s, p), in whatever order: what holds at each moment -/
structure Pc (g : Pl) (A B Z : Int) (ao : Option Addr) (n cap : Nat) (p : Pt.Pn) (W : World) (L : Nat → Bool) (u0 u1 u2 u3 u4 u5 u6 u7 u8 u9 : Value) (w' : World) : Prop where
 a0 : L 0 = true → u0 = .pointer (some ⟨g.b, g.o, none⟩)
 a1 : L 1 = true → u1 = .pointer (some ⟨g.b, g.o, none⟩)
 a2 : L 2 = true → u2 = .agg #[.int .i64 A, .int .i64 B, .int .i64 Z, .slice ao n cap]
 a3 : L 3 = true → u3 = .agg (Pt.pV p).toArray
 a4 : L 4 = true → PcT A B Z p W.heap.size u4 w'
 a5 : L 5 = true → PcT A B Z p W.heap.size u5 w'
 a6 : L 6 = true → PcV A B Z p W.heap.size u6 w'
 a7 : L 7 = true → u7 = .bool (plB A B Z p)
 a8 : L 8 = true → PcV A B Z p W.heap.size u8 w'
 a9 : L 9 = true → u9 = .bool (plB A B Z p)
 be : Below W.heap.size W w'
theorem pc_kl {L : Nat → Bool} {i k : Nat} {Q : Prop} (h : L k = true → Q) (h1 : (k == i) = false) : (k == i || L k) = true → Q := by
 rw [h1, Bool.false_or]
 exact h
section
variable {g : Pl} {A B Z : Int} {ao : Option Addr} {n cap : Nat} {p : Pt.Pn} {W : World} {L : Nat → Bool} {u0 u1 u2 u3 u4 u5 u6 u7 u8 u9 : Value} {w' w'' : World}
theorem Pc.start : Pc g A B Z ao n cap p W (fun _ => false) u0 u1 u2 u3 u4 u5 u6 u7 u8 u9 { W with drawn := W.drawn + 1 } := by
 constructor <;> first | exact ⟨rfl, rfl, rfl, Nat.le_refl _, fun _ _ => rfl⟩ | simp
theorem Pc.set0 (h : Pc g A B Z ao n cap p W L u0 u1 u2 u3 u4 u5 u6 u7 u8 u9 w') : Pc g A B Z ao n cap p W (fun j => j == 0 || L j) (.pointer (some ⟨g.b, g.o, none⟩)) u1 u2 u3 u4 u5 u6 u7 u8 u9 w' :=
 ⟨fun _ => rfl, pc_kl h.a1 rfl, pc_kl h.a2 rfl, pc_kl h.a3 rfl, pc_kl h.a4 rfl, pc_kl h.a5 rfl, pc_kl h.a6 rfl, pc_kl h.a7 rfl, pc_kl h.a8 rfl, pc_kl h.a9 rfl, h.be⟩
theorem Pc.set1 (h : Pc g A B Z ao n cap p W L u0 u1 u2 u3 u4 u5 u6 u7 u8 u9 w') : Pc g A B Z ao n cap p W (fun j => j == 1 || L j) u0 (.pointer (some ⟨g.b, g.o, none⟩)) u2 u3 u4 u5 u6 u7 u8 u9 w' :=
 ⟨pc_kl h.a0 rfl, fun _ => rfl, pc_kl h.a2 rfl, pc_kl h.a3 rfl, pc_kl h.a4 rfl, pc_kl h.a5 rfl, pc_kl h.a6 rfl, pc_kl h.a7 rfl, pc_kl h.a8 rfl, pc_kl h.a9 rfl, h.be⟩
theorem Pc.set2 (h : Pc g A B Z ao n cap p W L u0 u1 u2 u3 u4 u5 u6 u7 u8 u9 w') : Pc g A B Z ao n cap p W (fun j => j == 2 || L j) u0 u1 (.agg #[.int .i64 A, .int .i64 B, .int .i64 Z, .slice ao n cap]) u3 u4 u5 u6 u7 u8 u9 w' :=
 ⟨pc_kl h.a0 rfl, pc_kl h.a1 rfl, fun _ => rfl, pc_kl h.a3 rfl, pc_kl h.a4 rfl, pc_kl h.a5 rfl, pc_kl h.a6 rfl, pc_kl h.a7 rfl, pc_kl h.a8 rfl, pc_kl h.a9 rfl, h.be⟩
theorem Pc.set3 (h : Pc g A B Z ao n cap p W L u0 u1 u2 u3 u4 u5 u6 u7 u8 u9 w') : Pc g A B Z ao n cap p W (fun j => j == 3 || L j) u0 u1 u2 (.agg (Pt.pV p).toArray) u4 u5 u6 u7 u8 u9 w' :=
 ⟨pc_kl h.a0 rfl, pc_kl h.a1 rfl, pc_kl h.a2 rfl, fun _ => rfl, pc_kl h.a4 rfl, pc_kl h.a5 rfl, pc_kl h.a6 rfl, pc_kl h.a7 rfl, pc_kl h.a8 rfl, pc_kl h.a9 rfl, h.be⟩
theorem Pc.set5 (h : Pc g A B Z ao n cap p W L u0 u1 u2 u3 u4 u5 u6 u7 u8 u9 w') {v : Value} (hv : PcT A B Z p W.heap.size v w') : Pc g A B Z ao n cap p W (fun j => j == 5 || L j) u0 u1 u2 u3 u4 v u6 u7 u8 u9 w' :=
 ⟨pc_kl h.a0 rfl, pc_kl h.a1 rfl, pc_kl h.a2 rfl, pc_kl h.a3 rfl, pc_kl h.a4 rfl, fun _ => hv, pc_kl h.a6 rfl, pc_kl h.a7 rfl, pc_kl h.a8 rfl, pc_kl h.a9 rfl, h.be⟩
theorem Pc.set6 (h : Pc g A B Z ao n cap p W L u0 u1 u2 u3 u4 u5 u6 u7 u8 u9 w') {v : Value} (hv : PcV A B Z p W.heap.size v w') : Pc g A B Z ao n cap p W (fun j => j == 6 || L j) u0 u1 u2 u3 u4 u5 v u7 u8 u9 w' :=
 ⟨pc_kl h.a0 rfl, pc_kl h.a1 rfl, pc_kl h.a2 rfl, pc_kl h.a3 rfl, pc_kl h.a4 rfl, pc_kl h.a5 rfl, fun _ => hv, pc_kl h.a7 rfl, pc_kl h.a8 rfl, pc_kl h.a9 rfl, h.be⟩
theorem Pc.set7 (h : Pc g A B Z ao n cap p W L u0 u1 u2 u3 u4 u5 u6 u7 u8 u9 w') : Pc g A B Z ao n cap p W (fun j => j == 7 || L j) u0 u1 u2 u3 u4 u5 u6 (.bool (plB A B Z p)) u8 u9 w' :=
 ⟨pc_kl h.a0 rfl, pc_kl h.a1 rfl, pc_kl h.a2 rfl, pc_kl h.a3 rfl, pc_kl h.a4 rfl, pc_kl h.a5 rfl, pc_kl h.a6 rfl, fun _ => rfl, pc_kl h.a8 rfl, pc_kl h.a9 rfl, h.be⟩
theorem Pc.set8 (h : Pc g A B Z ao n cap p W L u0 u1 u2 u3 u4 u5 u6 u7 u8 u9 w') {v : Value} (hv : PcV A B Z p W.heap.size v w') : Pc g A B Z ao n cap p W (fun j => j == 8 || L j) u0 u1 u2 u3 u4 u5 u6 u7 v u9 w' :=
 ⟨pc_kl h.a0 rfl, pc_kl h.a1 rfl, pc_kl h.a2 rfl, pc_kl h.a3 rfl, pc_kl h.a4 rfl, pc_kl h.a5 rfl, pc_kl h.a6 rfl, pc_kl h.a7 rfl, fun _ => hv, pc_kl h.a9 rfl, h.be⟩
theorem Pc.set9 (h : Pc g A B Z ao n cap p W L u0 u1 u2 u3 u4 u5 u6 u7 u8 u9 w') : Pc g A B Z ao n cap p W (fun j => j == 9 || L j) u0 u1 u2 u3 u4 u5 u6 u7 u8 (.bool (plB A B Z p)) w' :=
 ⟨pc_kl h.a0 rfl, pc_kl h.a1 rfl, pc_kl h.a2 rfl, pc_kl h.a3 rfl, pc_kl h.a4 rfl, pc_kl h.a5 rfl, pc_kl h.a6 rfl, pc_kl h.a7 rfl, pc_kl h.a8 rfl, fun _ => rfl, h.be⟩
theorem Pc.call4 (h : Pc g A B Z ao n cap p W L u0 u1 u2 u3 u4 u5 u6 u7 u8 u9 w') {v : Value} (hv : PcT A B Z p w'.heap.size v w'') (hb : Below w'.heap.size w' w'') : Pc g A B Z ao n cap p W (fun j => j == 4 || L j) u0 u1 u2 u3 v u5 u6 u7 u8 u9 w'' :=
 ⟨pc_kl h.a0 rfl, pc_kl h.a1 rfl, pc_kl h.a2 rfl, pc_kl h.a3 rfl, fun _ => (by
  obtain ⟨v, e, hv⟩ := hv
  exact ⟨v, e, fun hh => (hv hh).more h.be.size⟩), pc_kl (fun e => (h.a5 e).below hb) rfl, pc_kl (fun e => (h.a6 e).below hb) rfl, pc_kl h.a7 rfl, pc_kl (fun e => (h.a8 e).below hb) rfl, pc_kl h.a9 rfl, h.be.trans (hb.mono h.be.size)⟩
end
theorem box_pp (w : World) (g : Pl) (p : Pt.Pn) : ∃ W, W = (w.alloc (.cells #[.pointer (some ⟨g.b, g.o, none⟩)] 119)).alloc (.cells (Pt.pV p).toArray 50) ∧ Below w.heap.size w W ∧ W.heap.size = w.heap.size + 2 ∧ W.cell? ⟨w.heap.size, 0, none⟩ = some (.pointer (some ⟨g.b, g.o, none⟩)) ∧ W.heap[w.heap.size + 1]? = some (.cells (Pt.pV p).toArray 50 (0, 0)) := by
 refine ⟨_, rfl, ((Below.refl _ _).alloc (Nat.le_refl _) _).alloc (by simp) _, by simp, ?_, ?_⟩
 ·rw [World.cell?_alloc_lt _ _ _ (by simp)]
  exact World.cell?_alloc_new _ _ _ 0
 ·have := heap_alloc_new (w.alloc (.cells #[.pointer (some ⟨g.b, g.o, none⟩)] 119)) (.cells (Pt.pV p).toArray 50)
  rwa [World.size_alloc] at this
def DrInv (x4 x7 x8 x9 x10 x19 x20 x21 x22 x23 x24 x25 x26 x27 x28 x29 x30 : Value) (q : Nat) (g : Pl) (A B Z : Int) (ao : Option Addr) (n cap : Nat) (p : Pt.Pn) (W : World) (L : Nat → Bool) (a' : Act) (w' : World) : Prop :=
 ∃ u0 u1 u2 u3 u4 u5 u6 u7 u8 u9, a' = { tmps := #[.pointer (some ⟨g.b, g.o, none⟩), .agg (Pt.pV p).toArray, .pointer (some ⟨q, 0, none⟩), .pointer (some ⟨q + 1, 0, none⟩), x4, u8, u9, x7, x8, x9, x10, u5, u0, u1, u2, u3, u4, u6, u7, x19, x20, x21, x22, x23, x24, x25, x26, x27, x28, x29, x30], defers := [] } ∧ Pc g A B Z ao n cap p W L u0 u1 u2 u3 u4 u5 u6 u7 u8 u9 w'
set_option maxRecDepth 100000 in
set_option maxHeartbeats 8000000 in
theorem Drop_any (g : Pl) (A B Z : Int) (p : Pt.Pn) (ao : Option Addr) (n cap : Nat) (f : Nat → Int) (w : World) (hx : Bs w g A B Z ao n cap) (hB : i64 B) (hs : St w w.heap.size ao n cap f) (hpA : i64 p.A) (hpB : i64 p.B) :
  Calls Tryz.prog 64 #[.pointer (some ⟨g.b, g.o, none⟩), .agg (Pt.pV p).toArray] w fun e w' => e = .returned (.int .i64 (drE A B Z n f p)) ∧ Turn w g A B Z n (drF A B Z n f p) w' := by
 obtain ⟨W, hW, hbW, hsW, hqW, hpW⟩ := box_pp w g p
 have hgl := hx.lt
 have hxW := hx.below hbW hgl
 have HF := Lib.hid (formed_any g A B Z ao n cap f W hxW hB (hs.later hbW))
 cases hp : formB A B Z n f with
 | false =>
  rw [hp] at HF
  have HV : Hid (drE A B Z n f p = 1 ∧ drF A B Z n f p = f) := Lib.hid (by
   have e : drB A B Z n f p = false := by unfold drB; rw [hp]; rfl
   unfold drE drF; rw [e]; exact ⟨rfl, rfl⟩)
  clear hp
  go_enter Tryz.func64, Tryz.ntmps64
  go_wp2_with fail
  rw [← hW]
  clear hW
  refine HF.out.mono ?_
  rintro _ w1 ⟨rfl, hb1⟩
  dsimp only
  go_wp2_with fail
  go_ret
  exact ⟨by rw [HV.out.1]; rfl, by rw [HV.out.2]; exact Turn.same hx hs (hbW.trans (hb1.mono (by omega)))⟩
 | true =>
  rw [hp] at HF
  have HAp := ap_of hp
  have HPC := Lib.hid (fun w' => places_any A B Z p ao n cap w' HAp hpA hpB)
  have hn0 := n_of hp
  have hbd := bd_of hp hs.byte
  have hpos := pos_of hp
  obtain ⟨b, off, rfl, hbl, hnc, hcc⟩ := bytes_tab hs.lies hpos
  go_enter Tryz.func64, Tryz.ntmps64
  go_wp2_with fail
  rw [← hW]
  clear hW
  refine HF.out.mono ?_
  rintro _ w1 ⟨rfl, hb1⟩
  dsimp only
  have HQ := Lib.hid (fun w' (hw' : Below w1.heap.size w1 w') => (hw'.cell (p := ⟨w.heap.size, 0, none⟩) (show w.heap.size < w1.heap.size by have := hb1.size; omega)).trans ((hb1.cell (p := ⟨w.heap.size, 0, none⟩) (show w.heap.size < W.heap.size by omega)).trans hqW))
  have HX := Lib.hid (fun w' (hw' : Below w1.heap.size w1 w') => (hxW.below hb1 (by omega)).below hw' (by have := hb1.size; omega))
  have HR := Lib.hid (fun w' (hw' : Below w1.heap.size w1 w') => Pt.row_pt ((hw'.block (w.heap.size + 1) (by have := hb1.size; omega)).trans ((hb1.block (w.heap.size + 1) (by omega)).trans hpW)))
  go_wp2_with fail
  refine QuietTail2.regionInv (n := 10) (Inv := DrInv _ _ _ _ _ _ _ _ _ _ _ _ _ _ _ _ _ w.heap.size g A B Z (some ⟨b, off, none⟩) n cap p w1) (by kernel_rfl) (by decide) (by kernel_rfl) ⟨_, _, _, _, _, _, _, _, _, _, rfl, Pc.start⟩ ?step ?fin
  case step =>
   rintro i o hi ho L a' w' ⟨u0, u1, u2, u3, u4, u5, u6, u7, u8, u9, rfl, TT⟩ hL hpre
   match i, hi with
   | 0, _ =>
    simp at ho
    subst ho
    have k0 := HQ.out w' TT.be
    go_simp
    exact ⟨_, u1, u2, u3, u4, u5, u6, u7, u8, u9, rfl, TT.set0⟩
   | 1, _ =>
    simp at ho
    subst ho
    obtain rfl := TT.a0 (hpre 0 (by kernel_rfl))
    go_simp
    exact ⟨_, _, u2, u3, u4, u5, u6, u7, u8, u9, rfl, TT.set1⟩
   | 2, _ =>
    simp at ho
    subst ho
    obtain rfl := TT.a1 (hpre 1 (by kernel_rfl))
    have k0 := (HX.out w' TT.be).c0
    have k1 := (HX.out w' TT.be).c1
    have k2 := (HX.out w' TT.be).c2
    have k3 := (HX.out w' TT.be).c3
    go_simp
    exact ⟨u0, _, _, u3, u4, u5, u6, u7, u8, u9, rfl, TT.set2⟩
   | 3, _ =>
    simp at ho
    subst ho
    refine wp_load_mid 50 (.tmp 3) rfl (w.heap.size + 1) 0 rfl (Pt.pV p) _ (HR.out w' TT.be) Pt.undP rfl (Pt.sizeP p) ?_
    simp only [Act.put, aI, aS, aZ]
    exact ⟨u0, u1, u2, _, u4, u5, u6, u7, u8, u9, rfl, TT.set3⟩
   | 4, _ =>
    simp at ho
    subst ho
    obtain rfl := TT.a2 (hpre 2 (by kernel_rfl))
    obtain rfl := TT.a3 (hpre 3 (by kernel_rfl))
    go_simp
    refine (HPC.out w').mono ?_
    rintro _ w'' ⟨v, rfl, hv, hbv⟩
    exact ⟨u0, u1, _, _, _, u5, u6, u7, u8, u9, rfl, TT.call4 ⟨v, rfl, hv⟩ hbv⟩
   | 5, _ =>
    simp at ho
    subst ho
    have hv := TT.a4 (hpre 4 (by kernel_rfl))
    go_simp
    exact ⟨u0, u1, u2, u3, u4, _, u6, u7, u8, u9, rfl, TT.set5 hv⟩
   | 6, _ =>
    simp at ho
    subst ho
    obtain ⟨v, rfl, hv⟩ := TT.a5 (hpre 5 (by kernel_rfl))
    go_simp
    exact ⟨u0, u1, u2, u3, u4, _, _, u7, u8, u9, rfl, TT.set6 hv⟩
   | 7, _ =>
    simp at ho
    subst ho
    obtain ⟨v, rfl, hv⟩ := TT.a5 (hpre 5 (by kernel_rfl))
    go_simp
    exact ⟨u0, u1, u2, u3, u4, _, u6, _, u8, u9, rfl, TT.set7⟩
   | 8, _ =>
    simp at ho
    subst ho
    have hv := TT.a6 (hpre 6 (by kernel_rfl))
    go_simp
    exact ⟨u0, u1, u2, u3, u4, u5, u6, u7, _, u9, rfl, TT.set8 hv⟩
   | 9, _ =>
    simp at ho
    subst ho
    obtain rfl := TT.a7 (hpre 7 (by kernel_rfl))
    go_simp
    exact ⟨u0, u1, u2, u3, u4, u5, u6, _, u8, _, rfl, TT.set9⟩
   | i + 10, h => omega
  case fin =>
   rintro L a' w5 hall ⟨u0, u1, u2, u3, u4, u5, u6, u7, u8, u9, rfl, TT⟩
   have hv8 := TT.a8 (hall 8 (by omega))
   obtain rfl := TT.a9 (hall 9 (by omega))
   have hB5 := TT.be
   clear TT hall
   simp only [List.drop_succ_cons, List.drop_zero]
   refine wpList_nil ?_
   cases hpl : plB A B Z p with
   | false =>
    have HV : Hid (drE A B Z n f p = 1 ∧ drF A B Z n f p = f) := Lib.hid (by
     have e : drB A B Z n f p = false := by unfold drB; rw [hp, hpl]; rfl
     unfold drE drF; rw [e]; exact ⟨rfl, rfl⟩)
    clear hp hpl hv8
    go_wp2_with fail
    go_ret
    exact ⟨by rw [HV.out.1]; rfl, by rw [HV.out.2]; exact Turn.same hx hs (hbW.trans ((hb1.trans (hB5.mono hb1.size)).mono (by omega)))⟩
   | true =>
    cases hany : anyP A B Z p fun i => !us (f i) with
    | true =>
     have HV : Hid (drE A B Z n f p = 1 ∧ drF A B Z n f p = f) := Lib.hid (by
      have e : drB A B Z n f p = false := by unfold drB; rw [hp, hpl, hany]; rfl
      unfold drE drF; rw [e]; exact ⟨rfl, rfl⟩)
     have hown := hv8 hpl
     obtain ⟨hpg0, hpl0⟩ : (∀ i, i < (pls A B Z p).length → plL A B Z p i < n ∧ (pls A B Z p).getD i 0 = (plL A B Z p i : Int)) ∧ (pls A B Z p).length ≤ 2 := ⟨plL_lt HAp hn0 hpl, pls_len A B Z p⟩
     have HCN := Lib.hid (contains_idle w.heap.size u8 (pls A B Z p) (fun x => !us (f x.toNat)) w1.heap.size w5 hown (by omega) (fun j hj => by
      obtain ⟨h1, h2⟩ := hpg0 j hj
      rw [h2]
      have h := idle_any w.heap.size g b off n cap (plL A B Z p j) A B Z f w5 (HQ.out w5 hB5) (HX.out w5 hB5) h1 ((hB5.cell (p := ⟨b, off + plL A B Z p j, none⟩) (show b < w1.heap.size by have := hb1.size; omega)).trans ((hb1.cell (p := ⟨b, off + plL A B Z p j, none⟩) (show b < W.heap.size by omega)).trans ((hbW.cell (p := ⟨b, off + plL A B Z p j, none⟩) hbl).trans (hcc _ h1))))
      simpa using h))
     rw [show (pls A B Z p).any (fun x => !us (f x.toNat)) = true from hany] at HCN
     clear hp hpl
     go_wp2_with fail
     refine HCN.out.mono ?_
     rintro _ w6 ⟨rfl, rfl⟩
     dsimp only
     go_wp2_with fail
     go_ret
     exact ⟨by rw [HV.out.1]; rfl, by rw [HV.out.2]; exact Turn.same hx hs (hbW.trans ((hb1.trans (hB5.mono hb1.size)).mono (by omega)))⟩
    | false =>
     have HV : Hid (drE A B Z n f p = 0 ∧ drF A B Z n f p = bec (nx 0 3 4 0 0) (plL A B Z p) f (pls A B Z p).length) := Lib.hid (by
      have e : drB A B Z n f p = true := by unfold drB; rw [hp, hpl, hany]; rfl
      unfold drE drF; rw [e]; exact ⟨rfl, rfl⟩)
     have hown := hv8 hpl
     obtain ⟨hpg0, hpl0⟩ : (∀ i, i < (pls A B Z p).length → plL A B Z p i < n ∧ (pls A B Z p).getD i 0 = (plL A B Z p i : Int)) ∧ (pls A B Z p).length ≤ 2 := ⟨plL_lt HAp hn0 hpl, pls_len A B Z p⟩
     have HCN := Lib.hid (contains_idle w.heap.size u8 (pls A B Z p) (fun x => !us (f x.toNat)) w1.heap.size w5 hown (by omega) (fun j hj => by
      obtain ⟨h1, h2⟩ := hpg0 j hj
      rw [h2]
      have h := idle_any w.heap.size g b off n cap (plL A B Z p j) A B Z f w5 (HQ.out w5 hB5) (HX.out w5 hB5) h1 ((hB5.cell (p := ⟨b, off + plL A B Z p j, none⟩) (show b < w1.heap.size by have := hb1.size; omega)).trans ((hb1.cell (p := ⟨b, off + plL A B Z p j, none⟩) (show b < W.heap.size by omega)).trans ((hbW.cell (p := ⟨b, off + plL A B Z p j, none⟩) hbl).trans (hcc _ h1))))
      simpa using h))
     have hY := hb1.trans (hB5.mono hb1.size)
     have hown := hv8 hpl
     obtain ⟨pa, m, mc, hu8, hmm, hpp⟩ : ∃ (pa : Option Addr) (m mc : Nat), u8 = .slice pa m mc ∧ m = (pls A B Z p).length ∧ (m = 0 ∨ ∃ pb po, pa = some ⟨pb, po, none⟩ ∧ pb < w5.heap.size ∧ pb ≠ g ∧ ∀ i, i < m → w5.cell? ⟨pb, po + i, none⟩ = some (.int .i64 (plL A B Z p i))) := by
      rcases hown.slice with ⟨e1, e2⟩ | ⟨b8, c8, e1, hb8, hl8, hc8⟩
      ·exact ⟨none, 0, 0, e1, by rw [e2]; rfl, .inl rfl⟩
      ·refine ⟨some ⟨b8, 0, none⟩, _, c8, e1, rfl, .inr ⟨b8, 0, rfl, hl8, by have := hb1.size; omega, fun i hi => ?_⟩⟩
       rw [Nat.zero_add, hc8 i hi, (hpg0 i hi).2]
     have HBE := Lib.hid (become_any g A B Z (some ⟨b, off, none⟩) n cap f 0 3 4 0 0 pa m mc (plL A B Z p) w5 (HX.out w5 hB5) ((hs.later (hbW.trans (hY.mono (by omega))))) hpos hbd (nx_bd (by omega)) (by omega) (fun i hi => (hpg0 i (by omega)).1) hpp)
     have HMM := Lib.hid hmm
     have q5 := HQ.out w5 hB5
     have HBW := Lib.hid (hbW.trans (hY.mono (by omega)))
     subst hu8
     clear hpp hmm hv8 hown hpg0 hcc
     rw [show (pls A B Z p).any (fun x => !us (f x.toNat)) = false from hany] at HCN
     clear hp hpl
     go_wp2_with fail
     refine HCN.out.mono ?_
     rintro _ w6 ⟨rfl, rfl⟩
     dsimp only
     go_wp2_with fail
     refine HBE.out.mono ?_
     rintro _ w7 ⟨⟨v7, rfl⟩, hT⟩
     dsimp only
     go_wp2_with fail
     go_ret
     exact ⟨by rw [HV.out.1]; rfl, by rw [HV.out.2, ← HMM.out]; exact hT.after HBW.out⟩

end Sp
end Go.Proofs.YtonhedefjmkpcaaGreatDoor
