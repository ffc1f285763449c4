/- VecParts: for all vectors, numbers and flags the law answers true: sums, differences, products, lengths and directions are the document's own answer, with the flag. No conditions. -/
import Derived.Test.YtioailboehpcaaaRVecC
import Derived.Test.YtioailboehpcaaaScale
import Derived.Test.YtioailboehpcaaaAwake2
import Derived.Test.YtioailboehpcaaaOpenV
import Derived.Test.YtioailboehpcaaaRows
import Derived.ProofKit
import Derived.OpenShut
import Derived.Deep.CutBlock
import Derived.Deep.QuietTactic
import Derived.BigQuiet
namespace Go.Proofs.Ytioailboehpcaaa
namespace vecParts
open Go.ChangeShapes Go.WideShapes Go.ChangeAt Go.RowKit Fx
set_option linter.unusedVariables false

theorem own : ownKnob Try.prog.godebug = none := by kernel_rfl
theorem set1_far {V : World} {p i : Nat} {u : Value} {q : Addr} (h : q.block ≠ p) : (V.setCell ⟨p, i, none⟩ u).cell? q = V.cell? q := World.cell?_of_block (w := V) (Below.heap_setCell V ⟨p, i, none⟩ u q.block h)
theorem set3_far {V : World} {p : Nat} {u0 u1 u2 : Value} {q : Addr} (h : q.block ≠ p) : (((V.setCell ⟨p, 0, none⟩ u0).setCell ⟨p, 1, none⟩ u1).setCell ⟨p, 2, none⟩ u2).cell? q = V.cell? q := by rw [set1_far h, set1_far h, set1_far h]
theorem set1_frozen {V : World} {p : Nat} {u : Value} {q : Addr} : (V.setCell ⟨p, 0, none⟩ u).frozen? q = V.frozen? q := by rw [World.frozen?_setCell]
theorem set3_frozen {V : World} {p : Nat} {u0 u1 u2 : Value} {q : Addr} : (((V.setCell ⟨p, 0, none⟩ u0).setCell ⟨p, 1, none⟩ u1).setCell ⟨p, 2, none⟩ u2).frozen? q = V.frozen? q := by rw [World.frozen?_setCell, World.frozen?_setCell, World.frozen?_setCell]
theorem set3_at {V : World} {p : Nat} {o0 o1 o2 : Value} (h0 : V.cell? ⟨p, 0, none⟩ = some o0) (h1 : V.cell? ⟨p, 1, none⟩ = some o1) (h2 : V.cell? ⟨p, 2, none⟩ = some o2) (u0 u1 u2 : Value) :
    (((V.setCell ⟨p, 0, none⟩ u0).setCell ⟨p, 1, none⟩ u1).setCell ⟨p, 2, none⟩ u2).cell? ⟨p, 0, none⟩ = some u0 ∧ (((V.setCell ⟨p, 0, none⟩ u0).setCell ⟨p, 1, none⟩ u1).setCell ⟨p, 2, none⟩ u2).cell? ⟨p, 1, none⟩ = some u1 ∧ (((V.setCell ⟨p, 0, none⟩ u0).setCell ⟨p, 1, none⟩ u1).setCell ⟨p, 2, none⟩ u2).cell? ⟨p, 2, none⟩ = some u2 :=
  ⟨by simp [go_sem, h0], by simp [go_sem, h1], by simp [go_sem, h2]⟩
theorem set1_at {V : World} {p : Nat} {o0 o1 o2 : Value} (h0 : V.cell? ⟨p, 0, none⟩ = some o0) (h1 : V.cell? ⟨p, 1, none⟩ = some o1) (h2 : V.cell? ⟨p, 2, none⟩ = some o2) (u0 : Value) :
    (V.setCell ⟨p, 0, none⟩ u0).cell? ⟨p, 0, none⟩ = some u0 ∧ (V.setCell ⟨p, 0, none⟩ u0).cell? ⟨p, 1, none⟩ = some o1 ∧ (V.setCell ⟨p, 0, none⟩ u0).cell? ⟨p, 2, none⟩ = some o2 :=
  ⟨by simp [go_sem, h0], by simp [go_sem, h1], by simp [go_sem, h2]⟩
theorem below1 {n : Nat} {w V : World} {p : Nat} {u : Value} (h : Below n w V) (hp : n ≤ p) : Below n w (V.setCell ⟨p, 0, none⟩ u) := h.setCell (p := ⟨p, 0, none⟩) hp u
theorem below3 {n : Nat} {w V : World} {p : Nat} {u0 u1 u2 : Value} (h : Below n w V) (hp : n ≤ p) : Below n w (((V.setCell ⟨p, 0, none⟩ u0).setCell ⟨p, 1, none⟩ u1).setCell ⟨p, 2, none⟩ u2) := ((h.setCell (p := ⟨p, 0, none⟩) hp u0).setCell (p := ⟨p, 1, none⟩) hp u1).setCell (p := ⟨p, 2, none⟩) hp u2
theorem below_step' {n : Nat} {a b c : World} (h : Below n a b) (k : Below b.heap.size b c) (hn : n ≤ b.heap.size := by exact (Below.size ‹_›)) : Below n a c := h.trans (k.mono hn)
theorem step3_same {f : Bool} {o0 o1 o2 : Option Int} {x0 x1 x2 y0 y1 y2 : Int} {g h : Bool} (a : Step3 f o0 o1 o2 x0 x1 x2 g) (b : Step3 f o0 o1 o2 y0 y1 y2 h) : y0 = x0 ∧ y1 = x1 ∧ y2 = x2 ∧ h = g := by
  obtain ⟨rfl, rfl, rfl, rfl⟩ := a
  exact b
theorem step_same {f : Bool} {o : Option Int} {x y : Int} {g h : Bool} (a : Step f o x g) (b : Step f o y h) : y = x ∧ h = g := by
  obtain ⟨rfl, rfl⟩ := a
  exact b

set_option maxRecDepth 100000 in
set_option maxHeartbeats 16000000 in
theorem walk (a0_0 a0_1 a0_2 a1_0 a1_1 a1_2 a2_0 : Int) (bad : Bool) (w0_0 : (Lit.int .i64 a0_0).wf = true) (w0_1 : (Lit.int .i64 a0_1).wf = true) (w0_2 : (Lit.int .i64 a0_2).wf = true) (w1_0 : (Lit.int .i64 a1_0).wf = true) (w1_1 : (Lit.int .i64 a1_1).wf = true) (w1_2 : (Lit.int .i64 a1_2).wf = true) (w2_0 : (Lit.int .i64 a2_0).wf = true) (w : World) :
    Calls Try.prog 3 #[.agg #[.int .i64 a0_0, .int .i64 a0_1, .int .i64 a0_2], .agg #[.int .i64 a1_0, .int .i64 a1_1, .int .i64 a1_2], .int .i64 a2_0, .bool bad] w fun e w' => e = .returned (.bool true) ∧ Below w.heap.size w w' := by
  have AW : Hid _ := fun W => awake2_any W
  clear w0_0 w0_1 w0_2 w1_0 w1_1 w1_2 w2_0
  go_enter Try.func3, Try.ntmps3
  go_wp2_with (fail)
  refine Calls.mono (AW.out _) ?_
  rintro e V ⟨rfl, hb0⟩
  clear AW
  have xa0 : V.cell? ⟨w.heap.size, 0, none⟩ = some (.int .i64 (a0_0)) := cell_after hb0 (by simp [go_sem])
  have xa1 : V.cell? ⟨w.heap.size, 1, none⟩ = some (.int .i64 (a0_1)) := cell_after hb0 (by simp [go_sem])
  have xa2 : V.cell? ⟨w.heap.size, 2, none⟩ = some (.int .i64 (a0_2)) := cell_after hb0 (by simp [go_sem])
  have xb0 : V.cell? ⟨w.heap.size + 1, 0, none⟩ = some (.int .i64 (a1_0)) := cell_after hb0 (by simp [go_sem])
  have xb1 : V.cell? ⟨w.heap.size + 1, 1, none⟩ = some (.int .i64 (a1_1)) := cell_after hb0 (by simp [go_sem])
  have xb2 : V.cell? ⟨w.heap.size + 1, 2, none⟩ = some (.int .i64 (a1_2)) := cell_after hb0 (by simp [go_sem])
  have hsV := hb0.size
  simp only [World.size_alloc] at hsV
  have HB : Hid (Below w.heap.size w V) := below_step (((Below.refl _ w).alloc (Nat.le_refl _) _).alloc (by simp) _) hb0
  obtain ⟨pa, hpa⟩ : ∃ p, p = w.heap.size := ⟨_, rfl⟩
  obtain ⟨pb, hpb⟩ : ∃ p, p = w.heap.size + 1 := ⟨_, rfl⟩
  clear hb0
  rw [← hpb, ← hpa]
  rw [← hpb] at xb0 xb1 xb2
  rw [← hpa] at xa0 xa1 xa2
  have qa : w.heap.size ≤ pa := by omega
  have qb : pa < pb := by omega
  have qv : pb < V.heap.size := by omega
  clear hpa hpb hsV
  go_wp2_with (fail)
  go_loopg [10] 7 (fun gk i wr => ∃ z : Int, i = .int .i64 z ∧ 0 ≤ z ∧ z ≤ 7 ∧ gk = (7 - z).toNat ∧ pb < wr.heap.size ∧ Hid (Below w.heap.size w wr) ∧ wr.cell? ⟨pa, 0, none⟩ = some (.int .i64 (a0_0)) ∧ wr.cell? ⟨pa, 1, none⟩ = some (.int .i64 (a0_1)) ∧ wr.cell? ⟨pa, 2, none⟩ = some (.int .i64 (a0_2)) ∧ wr.cell? ⟨pb, 0, none⟩ = some (.int .i64 (a1_0)) ∧ wr.cell? ⟨pb, 1, none⟩ = some (.int .i64 (a1_1)) ∧ wr.cell? ⟨pb, 2, none⟩ = some (.int .i64 (a1_2)))
  case atStart => exact ⟨0, rfl, by omega, by omega, rfl, qv, HB, xa0, xa1, xa2, xb0, xb1, xb2⟩
  case round =>
    clear HB qv xa0 xa1 xa2 xb0 xb1 xb2
    obtain ⟨z, rfl, hz0, hz7, hgk, qv, HB, xa0, xa1, xa2, xb0, xb1, xb2⟩ := hrel
    have HGK : Hid _ := hgk
    clear hgk
    by_cases hz : z < 7
    · go_upto_block 2 with fail
      obtain ⟨W0, hW0⟩ : ∃ W, W = (((wr.alloc (.cells #[.bool bad] 27)).alloc (.cells #[.bool bad] 29)).alloc (.cells #[.int .i64 0, .int .i64 0, .int .i64 0] 23)).alloc (.cells #[.int .i64 0, .int .i64 0, .int .i64 0] 23) := ⟨_, rfl⟩
      obtain ⟨pw, hpw⟩ : ∃ p, p = wr.heap.size := ⟨_, rfl⟩
      obtain ⟨pr, hpr⟩ : ∃ p, p = wr.heap.size + 1 := ⟨_, rfl⟩
      obtain ⟨px, hpx⟩ : ∃ p, p = wr.heap.size + 1 + 1 := ⟨_, rfl⟩
      obtain ⟨py, hpy⟩ : ∃ p, p = wr.heap.size + 1 + 1 + 1 := ⟨_, rfl⟩
      have hbW : Below wr.heap.size wr W0 := by rw [hW0]; exact ((((Below.refl _ wr).alloc (Nat.le_refl _) _).alloc (by simp) _).alloc (by simp; omega) _).alloc (by simp; omega) _
      have HB : Hid _ := below_step' HB.out hbW
      have xa0 := cell_after hbW xa0
      have xa1 := cell_after hbW xa1
      have xa2 := cell_after hbW xa2
      have xb0 := cell_after hbW xb0
      have xb1 := cell_after hbW xb1
      have xb2 := cell_after hbW xb2
      have x0 : W0.cell? ⟨px, 0, none⟩ = some (.int .i64 0) := by rw [hW0, hpx]; simp [go_sem]
      have xf0 : W0.frozen? ⟨px, 0, none⟩ = false := by rw [hW0, hpx]; simp [go_sem]
      have y0 : W0.cell? ⟨py, 0, none⟩ = some (.int .i64 0) := by rw [hW0, hpy]; simp [go_sem]
      have yf0 : W0.frozen? ⟨py, 0, none⟩ = false := by rw [hW0, hpy]; simp [go_sem]
      have x1 : W0.cell? ⟨px, 1, none⟩ = some (.int .i64 0) := by rw [hW0, hpx]; simp [go_sem]
      have xf1 : W0.frozen? ⟨px, 1, none⟩ = false := by rw [hW0, hpx]; simp [go_sem]
      have y1 : W0.cell? ⟨py, 1, none⟩ = some (.int .i64 0) := by rw [hW0, hpy]; simp [go_sem]
      have yf1 : W0.frozen? ⟨py, 1, none⟩ = false := by rw [hW0, hpy]; simp [go_sem]
      have x2 : W0.cell? ⟨px, 2, none⟩ = some (.int .i64 0) := by rw [hW0, hpx]; simp [go_sem]
      have xf2 : W0.frozen? ⟨px, 2, none⟩ = false := by rw [hW0, hpx]; simp [go_sem]
      have y2 : W0.cell? ⟨py, 2, none⟩ = some (.int .i64 0) := by rw [hW0, hpy]; simp [go_sem]
      have yf2 : W0.frozen? ⟨py, 2, none⟩ = false := by rw [hW0, hpy]; simp [go_sem]
      have fw : W0.cell? ⟨pw, 0, none⟩ = some (.bool bad) := by rw [hW0, hpw]; simp [go_sem]
      have fwf : W0.frozen? ⟨pw, 0, none⟩ = false := by rw [hW0, hpw]; simp [go_sem]
      have fr : W0.cell? ⟨pr, 0, none⟩ = some (.bool bad) := by rw [hW0, hpr]; simp [go_sem]
      have frf : W0.frozen? ⟨pr, 0, none⟩ = false := by rw [hW0, hpr]; simp [go_sem]
      have hszW : W0.heap.size = wr.heap.size + 4 := by rw [hW0]; simp
      rw [← hW0, ← hpy, ← hpx, ← hpr, ← hpw]
      have o1 : pb < pw := by omega
      have o2 : pw < pr := by omega
      have o3 : pr < px := by omega
      have o4 : px < py := by omega
      clear hW0 hpw hpr hpx hpy hbW qv hszW
      go_cut [] from 16 to 108 (fun wx => ∃ (v0 v1 v2 : Int) (g : Bool), Hid (Below w.heap.size w wx) ∧ wx.cell? ⟨pa, 0, none⟩ = some (.int .i64 (a0_0)) ∧ wx.cell? ⟨pa, 1, none⟩ = some (.int .i64 (a0_1)) ∧ wx.cell? ⟨pa, 2, none⟩ = some (.int .i64 (a0_2)) ∧ wx.cell? ⟨pb, 0, none⟩ = some (.int .i64 (a1_0)) ∧ wx.cell? ⟨pb, 1, none⟩ = some (.int .i64 (a1_1)) ∧ wx.cell? ⟨pb, 2, none⟩ = some (.int .i64 (a1_2)) ∧ wx.cell? ⟨px, 0, none⟩ = some (.int .i64 (v0)) ∧ wx.cell? ⟨px, 1, none⟩ = some (.int .i64 (v1)) ∧ wx.cell? ⟨px, 2, none⟩ = some (.int .i64 (v2)) ∧ wx.cell? ⟨py, 0, none⟩ = some (.int .i64 (v0)) ∧ wx.cell? ⟨py, 1, none⟩ = some (.int .i64 (v1)) ∧ wx.cell? ⟨py, 2, none⟩ = some (.int .i64 (v2)) ∧ wx.cell? ⟨pw, 0, none⟩ = some (.bool g) ∧ wx.cell? ⟨pr, 0, none⟩ = some (.bool g))
      case first =>
        have hz6 : z = 0 ∨ z = 1 ∨ z = 2 ∨ z = 3 ∨ z = 4 ∨ z = 5 ∨ z = 6 := by omega
        clear hz hz0 hz7 HGK
        rcases hz6 with rfl | rfl | rfl | rfl | rfl | rfl | rfl
        · go_wp2_with (fail)
          refine (vadd_law pw 0 bad a0_0 a0_1 a0_2 a1_0 a1_1 a1_2 _ fw fwf).mono ?_
          rintro e V1 ⟨v0, v1, v2, g, rfl, S1, A⟩
          have xa0 := A.out.cellOf xa0 (by show pa ≠ pw; omega)
          have xa1 := A.out.cellOf xa1 (by show pa ≠ pw; omega)
          have xa2 := A.out.cellOf xa2 (by show pa ≠ pw; omega)
          have xb0 := A.out.cellOf xb0 (by show pb ≠ pw; omega)
          have xb1 := A.out.cellOf xb1 (by show pb ≠ pw; omega)
          have xb2 := A.out.cellOf xb2 (by show pb ≠ pw; omega)
          have xf0 := A.out.frozenOf x0 xf0 (by show px ≠ pw; omega)
          have x0 := A.out.cellOf x0 (by show px ≠ pw; omega)
          have xf1 := A.out.frozenOf x1 xf1 (by show px ≠ pw; omega)
          have x1 := A.out.cellOf x1 (by show px ≠ pw; omega)
          have xf2 := A.out.frozenOf x2 xf2 (by show px ≠ pw; omega)
          have x2 := A.out.cellOf x2 (by show px ≠ pw; omega)
          have yf0 := A.out.frozenOf y0 yf0 (by show py ≠ pw; omega)
          have y0 := A.out.cellOf y0 (by show py ≠ pw; omega)
          have yf1 := A.out.frozenOf y1 yf1 (by show py ≠ pw; omega)
          have y1 := A.out.cellOf y1 (by show py ≠ pw; omega)
          have yf2 := A.out.frozenOf y2 yf2 (by show py ≠ pw; omega)
          have y2 := A.out.cellOf y2 (by show py ≠ pw; omega)
          have frf := A.out.frozenOf fr frf (by show pr ≠ pw; omega)
          have fr := A.out.cellOf fr (by show pr ≠ pw; omega)
          have fw := A.out.cell
          have fwf := A.out.frozen
          have HB : Hid _ := A.out.below _ _ HB.out (by show w.heap.size ≤ pw; omega) HB.out.size
          clear A
          go_wp2_with (fail)
          obtain ⟨V2, hV2⟩ : ∃ V, V = (((V1.setCell ⟨px, 0, none⟩ (.int .i64 (v0))).setCell ⟨px, 1, none⟩ (.int .i64 (v1))).setCell ⟨px, 2, none⟩ (.int .i64 (v2))) := ⟨_, rfl⟩
          rw [← hV2]
          have xf0 : V2.frozen? ⟨px, 0, none⟩ = false := by rw [hV2, set3_frozen]; exact xf0
          have xf1 : V2.frozen? ⟨px, 1, none⟩ = false := by rw [hV2, set3_frozen]; exact xf1
          have xf2 : V2.frozen? ⟨px, 2, none⟩ = false := by rw [hV2, set3_frozen]; exact xf2
          have yf0 : V2.frozen? ⟨py, 0, none⟩ = false := by rw [hV2, set3_frozen]; exact yf0
          have yf1 : V2.frozen? ⟨py, 1, none⟩ = false := by rw [hV2, set3_frozen]; exact yf1
          have yf2 : V2.frozen? ⟨py, 2, none⟩ = false := by rw [hV2, set3_frozen]; exact yf2
          have fwf : V2.frozen? ⟨pw, 0, none⟩ = false := by rw [hV2, set3_frozen]; exact fwf
          have frf : V2.frozen? ⟨pr, 0, none⟩ = false := by rw [hV2, set3_frozen]; exact frf
          have z3 := set3_at x0 x1 x2 (.int .i64 (v0)) (.int .i64 (v1)) (.int .i64 (v2))
          rw [← hV2] at z3
          have xa0 := (show V2.cell? ⟨pa, 0, none⟩ = V1.cell? ⟨pa, 0, none⟩ by rw [hV2, set3_far (by show pa ≠ px; omega)]).trans xa0
          have xa1 := (show V2.cell? ⟨pa, 1, none⟩ = V1.cell? ⟨pa, 1, none⟩ by rw [hV2, set3_far (by show pa ≠ px; omega)]).trans xa1
          have xa2 := (show V2.cell? ⟨pa, 2, none⟩ = V1.cell? ⟨pa, 2, none⟩ by rw [hV2, set3_far (by show pa ≠ px; omega)]).trans xa2
          have xb0 := (show V2.cell? ⟨pb, 0, none⟩ = V1.cell? ⟨pb, 0, none⟩ by rw [hV2, set3_far (by show pb ≠ px; omega)]).trans xb0
          have xb1 := (show V2.cell? ⟨pb, 1, none⟩ = V1.cell? ⟨pb, 1, none⟩ by rw [hV2, set3_far (by show pb ≠ px; omega)]).trans xb1
          have xb2 := (show V2.cell? ⟨pb, 2, none⟩ = V1.cell? ⟨pb, 2, none⟩ by rw [hV2, set3_far (by show pb ≠ px; omega)]).trans xb2
          have y0 := (show V2.cell? ⟨py, 0, none⟩ = V1.cell? ⟨py, 0, none⟩ by rw [hV2, set3_far (by show py ≠ px; omega)]).trans y0
          have y1 := (show V2.cell? ⟨py, 1, none⟩ = V1.cell? ⟨py, 1, none⟩ by rw [hV2, set3_far (by show py ≠ px; omega)]).trans y1
          have y2 := (show V2.cell? ⟨py, 2, none⟩ = V1.cell? ⟨py, 2, none⟩ by rw [hV2, set3_far (by show py ≠ px; omega)]).trans y2
          have fw := (show V2.cell? ⟨pw, 0, none⟩ = V1.cell? ⟨pw, 0, none⟩ by rw [hV2, set3_far (by show pw ≠ px; omega)]).trans fw
          have fr := (show V2.cell? ⟨pr, 0, none⟩ = V1.cell? ⟨pr, 0, none⟩ by rw [hV2, set3_far (by show pr ≠ px; omega)]).trans fr
          obtain ⟨x0, x1, x2⟩ := z3
          have HB : Hid (Below w.heap.size w V2) := by show Below _ _ _; rw [hV2]; exact below3 HB.out (by omega)
          clear hV2
          refine (rvadd_law pr 0 bad a0_0 a0_1 a0_2 a1_0 a1_1 a1_2 _ fr frf).mono ?_
          rintro e V3 ⟨u0, u1, u2, h, rfl, S2, A⟩
          have xa0 := A.out.cellOf xa0 (by show pa ≠ pr; omega)
          have xa1 := A.out.cellOf xa1 (by show pa ≠ pr; omega)
          have xa2 := A.out.cellOf xa2 (by show pa ≠ pr; omega)
          have xb0 := A.out.cellOf xb0 (by show pb ≠ pr; omega)
          have xb1 := A.out.cellOf xb1 (by show pb ≠ pr; omega)
          have xb2 := A.out.cellOf xb2 (by show pb ≠ pr; omega)
          have xf0 := A.out.frozenOf x0 xf0 (by show px ≠ pr; omega)
          have x0 := A.out.cellOf x0 (by show px ≠ pr; omega)
          have xf1 := A.out.frozenOf x1 xf1 (by show px ≠ pr; omega)
          have x1 := A.out.cellOf x1 (by show px ≠ pr; omega)
          have xf2 := A.out.frozenOf x2 xf2 (by show px ≠ pr; omega)
          have x2 := A.out.cellOf x2 (by show px ≠ pr; omega)
          have yf0 := A.out.frozenOf y0 yf0 (by show py ≠ pr; omega)
          have y0 := A.out.cellOf y0 (by show py ≠ pr; omega)
          have yf1 := A.out.frozenOf y1 yf1 (by show py ≠ pr; omega)
          have y1 := A.out.cellOf y1 (by show py ≠ pr; omega)
          have yf2 := A.out.frozenOf y2 yf2 (by show py ≠ pr; omega)
          have y2 := A.out.cellOf y2 (by show py ≠ pr; omega)
          have fwf := A.out.frozenOf fw fwf (by show pw ≠ pr; omega)
          have fw := A.out.cellOf fw (by show pw ≠ pr; omega)
          have fr := A.out.cell
          have frf := A.out.frozen
          have HB : Hid _ := A.out.below _ _ HB.out (by show w.heap.size ≤ pr; omega) HB.out.size
          clear A
          obtain ⟨rfl, rfl, rfl, rfl⟩ := step3_same S1.out S2.out
          clear S1 S2
          go_wp2_with (fail)
          obtain ⟨V4, hV4⟩ : ∃ V, V = (((V3.setCell ⟨py, 0, none⟩ (.int .i64 (u0))).setCell ⟨py, 1, none⟩ (.int .i64 (u1))).setCell ⟨py, 2, none⟩ (.int .i64 (u2))) := ⟨_, rfl⟩
          rw [← hV4]
          have xf0 : V4.frozen? ⟨px, 0, none⟩ = false := by rw [hV4, set3_frozen]; exact xf0
          have xf1 : V4.frozen? ⟨px, 1, none⟩ = false := by rw [hV4, set3_frozen]; exact xf1
          have xf2 : V4.frozen? ⟨px, 2, none⟩ = false := by rw [hV4, set3_frozen]; exact xf2
          have yf0 : V4.frozen? ⟨py, 0, none⟩ = false := by rw [hV4, set3_frozen]; exact yf0
          have yf1 : V4.frozen? ⟨py, 1, none⟩ = false := by rw [hV4, set3_frozen]; exact yf1
          have yf2 : V4.frozen? ⟨py, 2, none⟩ = false := by rw [hV4, set3_frozen]; exact yf2
          have fwf : V4.frozen? ⟨pw, 0, none⟩ = false := by rw [hV4, set3_frozen]; exact fwf
          have frf : V4.frozen? ⟨pr, 0, none⟩ = false := by rw [hV4, set3_frozen]; exact frf
          have z3 := set3_at y0 y1 y2 (.int .i64 (u0)) (.int .i64 (u1)) (.int .i64 (u2))
          rw [← hV4] at z3
          have xa0 := (show V4.cell? ⟨pa, 0, none⟩ = V3.cell? ⟨pa, 0, none⟩ by rw [hV4, set3_far (by show pa ≠ py; omega)]).trans xa0
          have xa1 := (show V4.cell? ⟨pa, 1, none⟩ = V3.cell? ⟨pa, 1, none⟩ by rw [hV4, set3_far (by show pa ≠ py; omega)]).trans xa1
          have xa2 := (show V4.cell? ⟨pa, 2, none⟩ = V3.cell? ⟨pa, 2, none⟩ by rw [hV4, set3_far (by show pa ≠ py; omega)]).trans xa2
          have xb0 := (show V4.cell? ⟨pb, 0, none⟩ = V3.cell? ⟨pb, 0, none⟩ by rw [hV4, set3_far (by show pb ≠ py; omega)]).trans xb0
          have xb1 := (show V4.cell? ⟨pb, 1, none⟩ = V3.cell? ⟨pb, 1, none⟩ by rw [hV4, set3_far (by show pb ≠ py; omega)]).trans xb1
          have xb2 := (show V4.cell? ⟨pb, 2, none⟩ = V3.cell? ⟨pb, 2, none⟩ by rw [hV4, set3_far (by show pb ≠ py; omega)]).trans xb2
          have x0 := (show V4.cell? ⟨px, 0, none⟩ = V3.cell? ⟨px, 0, none⟩ by rw [hV4, set3_far (by show px ≠ py; omega)]).trans x0
          have x1 := (show V4.cell? ⟨px, 1, none⟩ = V3.cell? ⟨px, 1, none⟩ by rw [hV4, set3_far (by show px ≠ py; omega)]).trans x1
          have x2 := (show V4.cell? ⟨px, 2, none⟩ = V3.cell? ⟨px, 2, none⟩ by rw [hV4, set3_far (by show px ≠ py; omega)]).trans x2
          have fw := (show V4.cell? ⟨pw, 0, none⟩ = V3.cell? ⟨pw, 0, none⟩ by rw [hV4, set3_far (by show pw ≠ py; omega)]).trans fw
          have fr := (show V4.cell? ⟨pr, 0, none⟩ = V3.cell? ⟨pr, 0, none⟩ by rw [hV4, set3_far (by show pr ≠ py; omega)]).trans fr
          obtain ⟨y0, y1, y2⟩ := z3
          have HB : Hid (Below w.heap.size w V4) := by show Below _ _ _; rw [hV4]; exact below3 HB.out (by omega)
          clear hV4
          go_meet
          case rel => exact ⟨u0, u1, u2, h, HB, xa0, xa1, xa2, xb0, xb1, xb2, x0, x1, x2, y0, y1, y2, fw, fr⟩
        · go_wp2_with (fail)
          refine (vsub_law pw 0 bad a0_0 a0_1 a0_2 a1_0 a1_1 a1_2 _ fw fwf).mono ?_
          rintro e V1 ⟨v0, v1, v2, g, rfl, S1, A⟩
          have xa0 := A.out.cellOf xa0 (by show pa ≠ pw; omega)
          have xa1 := A.out.cellOf xa1 (by show pa ≠ pw; omega)
          have xa2 := A.out.cellOf xa2 (by show pa ≠ pw; omega)
          have xb0 := A.out.cellOf xb0 (by show pb ≠ pw; omega)
          have xb1 := A.out.cellOf xb1 (by show pb ≠ pw; omega)
          have xb2 := A.out.cellOf xb2 (by show pb ≠ pw; omega)
          have xf0 := A.out.frozenOf x0 xf0 (by show px ≠ pw; omega)
          have x0 := A.out.cellOf x0 (by show px ≠ pw; omega)
          have xf1 := A.out.frozenOf x1 xf1 (by show px ≠ pw; omega)
          have x1 := A.out.cellOf x1 (by show px ≠ pw; omega)
          have xf2 := A.out.frozenOf x2 xf2 (by show px ≠ pw; omega)
          have x2 := A.out.cellOf x2 (by show px ≠ pw; omega)
          have yf0 := A.out.frozenOf y0 yf0 (by show py ≠ pw; omega)
          have y0 := A.out.cellOf y0 (by show py ≠ pw; omega)
          have yf1 := A.out.frozenOf y1 yf1 (by show py ≠ pw; omega)
          have y1 := A.out.cellOf y1 (by show py ≠ pw; omega)
          have yf2 := A.out.frozenOf y2 yf2 (by show py ≠ pw; omega)
          have y2 := A.out.cellOf y2 (by show py ≠ pw; omega)
          have frf := A.out.frozenOf fr frf (by show pr ≠ pw; omega)
          have fr := A.out.cellOf fr (by show pr ≠ pw; omega)
          have fw := A.out.cell
          have fwf := A.out.frozen
          have HB : Hid _ := A.out.below _ _ HB.out (by show w.heap.size ≤ pw; omega) HB.out.size
          clear A
          go_wp2_with (fail)
          obtain ⟨V2, hV2⟩ : ∃ V, V = (((V1.setCell ⟨px, 0, none⟩ (.int .i64 (v0))).setCell ⟨px, 1, none⟩ (.int .i64 (v1))).setCell ⟨px, 2, none⟩ (.int .i64 (v2))) := ⟨_, rfl⟩
          rw [← hV2]
          have xf0 : V2.frozen? ⟨px, 0, none⟩ = false := by rw [hV2, set3_frozen]; exact xf0
          have xf1 : V2.frozen? ⟨px, 1, none⟩ = false := by rw [hV2, set3_frozen]; exact xf1
          have xf2 : V2.frozen? ⟨px, 2, none⟩ = false := by rw [hV2, set3_frozen]; exact xf2
          have yf0 : V2.frozen? ⟨py, 0, none⟩ = false := by rw [hV2, set3_frozen]; exact yf0
          have yf1 : V2.frozen? ⟨py, 1, none⟩ = false := by rw [hV2, set3_frozen]; exact yf1
          have yf2 : V2.frozen? ⟨py, 2, none⟩ = false := by rw [hV2, set3_frozen]; exact yf2
          have fwf : V2.frozen? ⟨pw, 0, none⟩ = false := by rw [hV2, set3_frozen]; exact fwf
          have frf : V2.frozen? ⟨pr, 0, none⟩ = false := by rw [hV2, set3_frozen]; exact frf
          have z3 := set3_at x0 x1 x2 (.int .i64 (v0)) (.int .i64 (v1)) (.int .i64 (v2))
          rw [← hV2] at z3
          have xa0 := (show V2.cell? ⟨pa, 0, none⟩ = V1.cell? ⟨pa, 0, none⟩ by rw [hV2, set3_far (by show pa ≠ px; omega)]).trans xa0
          have xa1 := (show V2.cell? ⟨pa, 1, none⟩ = V1.cell? ⟨pa, 1, none⟩ by rw [hV2, set3_far (by show pa ≠ px; omega)]).trans xa1
          have xa2 := (show V2.cell? ⟨pa, 2, none⟩ = V1.cell? ⟨pa, 2, none⟩ by rw [hV2, set3_far (by show pa ≠ px; omega)]).trans xa2
          have xb0 := (show V2.cell? ⟨pb, 0, none⟩ = V1.cell? ⟨pb, 0, none⟩ by rw [hV2, set3_far (by show pb ≠ px; omega)]).trans xb0
          have xb1 := (show V2.cell? ⟨pb, 1, none⟩ = V1.cell? ⟨pb, 1, none⟩ by rw [hV2, set3_far (by show pb ≠ px; omega)]).trans xb1
          have xb2 := (show V2.cell? ⟨pb, 2, none⟩ = V1.cell? ⟨pb, 2, none⟩ by rw [hV2, set3_far (by show pb ≠ px; omega)]).trans xb2
          have y0 := (show V2.cell? ⟨py, 0, none⟩ = V1.cell? ⟨py, 0, none⟩ by rw [hV2, set3_far (by show py ≠ px; omega)]).trans y0
          have y1 := (show V2.cell? ⟨py, 1, none⟩ = V1.cell? ⟨py, 1, none⟩ by rw [hV2, set3_far (by show py ≠ px; omega)]).trans y1
          have y2 := (show V2.cell? ⟨py, 2, none⟩ = V1.cell? ⟨py, 2, none⟩ by rw [hV2, set3_far (by show py ≠ px; omega)]).trans y2
          have fw := (show V2.cell? ⟨pw, 0, none⟩ = V1.cell? ⟨pw, 0, none⟩ by rw [hV2, set3_far (by show pw ≠ px; omega)]).trans fw
          have fr := (show V2.cell? ⟨pr, 0, none⟩ = V1.cell? ⟨pr, 0, none⟩ by rw [hV2, set3_far (by show pr ≠ px; omega)]).trans fr
          obtain ⟨x0, x1, x2⟩ := z3
          have HB : Hid (Below w.heap.size w V2) := by show Below _ _ _; rw [hV2]; exact below3 HB.out (by omega)
          clear hV2
          refine (rvsub_law pr 0 bad a0_0 a0_1 a0_2 a1_0 a1_1 a1_2 _ fr frf).mono ?_
          rintro e V3 ⟨u0, u1, u2, h, rfl, S2, A⟩
          have xa0 := A.out.cellOf xa0 (by show pa ≠ pr; omega)
          have xa1 := A.out.cellOf xa1 (by show pa ≠ pr; omega)
          have xa2 := A.out.cellOf xa2 (by show pa ≠ pr; omega)
          have xb0 := A.out.cellOf xb0 (by show pb ≠ pr; omega)
          have xb1 := A.out.cellOf xb1 (by show pb ≠ pr; omega)
          have xb2 := A.out.cellOf xb2 (by show pb ≠ pr; omega)
          have xf0 := A.out.frozenOf x0 xf0 (by show px ≠ pr; omega)
          have x0 := A.out.cellOf x0 (by show px ≠ pr; omega)
          have xf1 := A.out.frozenOf x1 xf1 (by show px ≠ pr; omega)
          have x1 := A.out.cellOf x1 (by show px ≠ pr; omega)
          have xf2 := A.out.frozenOf x2 xf2 (by show px ≠ pr; omega)
          have x2 := A.out.cellOf x2 (by show px ≠ pr; omega)
          have yf0 := A.out.frozenOf y0 yf0 (by show py ≠ pr; omega)
          have y0 := A.out.cellOf y0 (by show py ≠ pr; omega)
          have yf1 := A.out.frozenOf y1 yf1 (by show py ≠ pr; omega)
          have y1 := A.out.cellOf y1 (by show py ≠ pr; omega)
          have yf2 := A.out.frozenOf y2 yf2 (by show py ≠ pr; omega)
          have y2 := A.out.cellOf y2 (by show py ≠ pr; omega)
          have fwf := A.out.frozenOf fw fwf (by show pw ≠ pr; omega)
          have fw := A.out.cellOf fw (by show pw ≠ pr; omega)
          have fr := A.out.cell
          have frf := A.out.frozen
          have HB : Hid _ := A.out.below _ _ HB.out (by show w.heap.size ≤ pr; omega) HB.out.size
          clear A
          obtain ⟨rfl, rfl, rfl, rfl⟩ := step3_same S1.out S2.out
          clear S1 S2
          go_wp2_with (fail)
          obtain ⟨V4, hV4⟩ : ∃ V, V = (((V3.setCell ⟨py, 0, none⟩ (.int .i64 (u0))).setCell ⟨py, 1, none⟩ (.int .i64 (u1))).setCell ⟨py, 2, none⟩ (.int .i64 (u2))) := ⟨_, rfl⟩
          rw [← hV4]
          have xf0 : V4.frozen? ⟨px, 0, none⟩ = false := by rw [hV4, set3_frozen]; exact xf0
          have xf1 : V4.frozen? ⟨px, 1, none⟩ = false := by rw [hV4, set3_frozen]; exact xf1
          have xf2 : V4.frozen? ⟨px, 2, none⟩ = false := by rw [hV4, set3_frozen]; exact xf2
          have yf0 : V4.frozen? ⟨py, 0, none⟩ = false := by rw [hV4, set3_frozen]; exact yf0
          have yf1 : V4.frozen? ⟨py, 1, none⟩ = false := by rw [hV4, set3_frozen]; exact yf1
          have yf2 : V4.frozen? ⟨py, 2, none⟩ = false := by rw [hV4, set3_frozen]; exact yf2
          have fwf : V4.frozen? ⟨pw, 0, none⟩ = false := by rw [hV4, set3_frozen]; exact fwf
          have frf : V4.frozen? ⟨pr, 0, none⟩ = false := by rw [hV4, set3_frozen]; exact frf
          have z3 := set3_at y0 y1 y2 (.int .i64 (u0)) (.int .i64 (u1)) (.int .i64 (u2))
          rw [← hV4] at z3
          have xa0 := (show V4.cell? ⟨pa, 0, none⟩ = V3.cell? ⟨pa, 0, none⟩ by rw [hV4, set3_far (by show pa ≠ py; omega)]).trans xa0
          have xa1 := (show V4.cell? ⟨pa, 1, none⟩ = V3.cell? ⟨pa, 1, none⟩ by rw [hV4, set3_far (by show pa ≠ py; omega)]).trans xa1
          have xa2 := (show V4.cell? ⟨pa, 2, none⟩ = V3.cell? ⟨pa, 2, none⟩ by rw [hV4, set3_far (by show pa ≠ py; omega)]).trans xa2
          have xb0 := (show V4.cell? ⟨pb, 0, none⟩ = V3.cell? ⟨pb, 0, none⟩ by rw [hV4, set3_far (by show pb ≠ py; omega)]).trans xb0
          have xb1 := (show V4.cell? ⟨pb, 1, none⟩ = V3.cell? ⟨pb, 1, none⟩ by rw [hV4, set3_far (by show pb ≠ py; omega)]).trans xb1
          have xb2 := (show V4.cell? ⟨pb, 2, none⟩ = V3.cell? ⟨pb, 2, none⟩ by rw [hV4, set3_far (by show pb ≠ py; omega)]).trans xb2
          have x0 := (show V4.cell? ⟨px, 0, none⟩ = V3.cell? ⟨px, 0, none⟩ by rw [hV4, set3_far (by show px ≠ py; omega)]).trans x0
          have x1 := (show V4.cell? ⟨px, 1, none⟩ = V3.cell? ⟨px, 1, none⟩ by rw [hV4, set3_far (by show px ≠ py; omega)]).trans x1
          have x2 := (show V4.cell? ⟨px, 2, none⟩ = V3.cell? ⟨px, 2, none⟩ by rw [hV4, set3_far (by show px ≠ py; omega)]).trans x2
          have fw := (show V4.cell? ⟨pw, 0, none⟩ = V3.cell? ⟨pw, 0, none⟩ by rw [hV4, set3_far (by show pw ≠ py; omega)]).trans fw
          have fr := (show V4.cell? ⟨pr, 0, none⟩ = V3.cell? ⟨pr, 0, none⟩ by rw [hV4, set3_far (by show pr ≠ py; omega)]).trans fr
          obtain ⟨y0, y1, y2⟩ := z3
          have HB : Hid (Below w.heap.size w V4) := by show Below _ _ _; rw [hV4]; exact below3 HB.out (by omega)
          clear hV4
          go_meet
          case rel => exact ⟨u0, u1, u2, h, HB, xa0, xa1, xa2, xb0, xb1, xb2, x0, x1, x2, y0, y1, y2, fw, fr⟩
        · go_wp2_with (fail)
          refine (vscale_law pw 0 bad a0_0 a0_1 a0_2 a2_0 _ fw fwf).mono ?_
          rintro e V1 ⟨v0, v1, v2, g, rfl, S1, A⟩
          have xa0 := A.out.cellOf xa0 (by show pa ≠ pw; omega)
          have xa1 := A.out.cellOf xa1 (by show pa ≠ pw; omega)
          have xa2 := A.out.cellOf xa2 (by show pa ≠ pw; omega)
          have xb0 := A.out.cellOf xb0 (by show pb ≠ pw; omega)
          have xb1 := A.out.cellOf xb1 (by show pb ≠ pw; omega)
          have xb2 := A.out.cellOf xb2 (by show pb ≠ pw; omega)
          have xf0 := A.out.frozenOf x0 xf0 (by show px ≠ pw; omega)
          have x0 := A.out.cellOf x0 (by show px ≠ pw; omega)
          have xf1 := A.out.frozenOf x1 xf1 (by show px ≠ pw; omega)
          have x1 := A.out.cellOf x1 (by show px ≠ pw; omega)
          have xf2 := A.out.frozenOf x2 xf2 (by show px ≠ pw; omega)
          have x2 := A.out.cellOf x2 (by show px ≠ pw; omega)
          have yf0 := A.out.frozenOf y0 yf0 (by show py ≠ pw; omega)
          have y0 := A.out.cellOf y0 (by show py ≠ pw; omega)
          have yf1 := A.out.frozenOf y1 yf1 (by show py ≠ pw; omega)
          have y1 := A.out.cellOf y1 (by show py ≠ pw; omega)
          have yf2 := A.out.frozenOf y2 yf2 (by show py ≠ pw; omega)
          have y2 := A.out.cellOf y2 (by show py ≠ pw; omega)
          have frf := A.out.frozenOf fr frf (by show pr ≠ pw; omega)
          have fr := A.out.cellOf fr (by show pr ≠ pw; omega)
          have fw := A.out.cell
          have fwf := A.out.frozen
          have HB : Hid _ := A.out.below _ _ HB.out (by show w.heap.size ≤ pw; omega) HB.out.size
          clear A
          go_wp2_with (fail)
          obtain ⟨V2, hV2⟩ : ∃ V, V = (((V1.setCell ⟨px, 0, none⟩ (.int .i64 (v0))).setCell ⟨px, 1, none⟩ (.int .i64 (v1))).setCell ⟨px, 2, none⟩ (.int .i64 (v2))) := ⟨_, rfl⟩
          rw [← hV2]
          have xf0 : V2.frozen? ⟨px, 0, none⟩ = false := by rw [hV2, set3_frozen]; exact xf0
          have xf1 : V2.frozen? ⟨px, 1, none⟩ = false := by rw [hV2, set3_frozen]; exact xf1
          have xf2 : V2.frozen? ⟨px, 2, none⟩ = false := by rw [hV2, set3_frozen]; exact xf2
          have yf0 : V2.frozen? ⟨py, 0, none⟩ = false := by rw [hV2, set3_frozen]; exact yf0
          have yf1 : V2.frozen? ⟨py, 1, none⟩ = false := by rw [hV2, set3_frozen]; exact yf1
          have yf2 : V2.frozen? ⟨py, 2, none⟩ = false := by rw [hV2, set3_frozen]; exact yf2
          have fwf : V2.frozen? ⟨pw, 0, none⟩ = false := by rw [hV2, set3_frozen]; exact fwf
          have frf : V2.frozen? ⟨pr, 0, none⟩ = false := by rw [hV2, set3_frozen]; exact frf
          have z3 := set3_at x0 x1 x2 (.int .i64 (v0)) (.int .i64 (v1)) (.int .i64 (v2))
          rw [← hV2] at z3
          have xa0 := (show V2.cell? ⟨pa, 0, none⟩ = V1.cell? ⟨pa, 0, none⟩ by rw [hV2, set3_far (by show pa ≠ px; omega)]).trans xa0
          have xa1 := (show V2.cell? ⟨pa, 1, none⟩ = V1.cell? ⟨pa, 1, none⟩ by rw [hV2, set3_far (by show pa ≠ px; omega)]).trans xa1
          have xa2 := (show V2.cell? ⟨pa, 2, none⟩ = V1.cell? ⟨pa, 2, none⟩ by rw [hV2, set3_far (by show pa ≠ px; omega)]).trans xa2
          have xb0 := (show V2.cell? ⟨pb, 0, none⟩ = V1.cell? ⟨pb, 0, none⟩ by rw [hV2, set3_far (by show pb ≠ px; omega)]).trans xb0
          have xb1 := (show V2.cell? ⟨pb, 1, none⟩ = V1.cell? ⟨pb, 1, none⟩ by rw [hV2, set3_far (by show pb ≠ px; omega)]).trans xb1
          have xb2 := (show V2.cell? ⟨pb, 2, none⟩ = V1.cell? ⟨pb, 2, none⟩ by rw [hV2, set3_far (by show pb ≠ px; omega)]).trans xb2
          have y0 := (show V2.cell? ⟨py, 0, none⟩ = V1.cell? ⟨py, 0, none⟩ by rw [hV2, set3_far (by show py ≠ px; omega)]).trans y0
          have y1 := (show V2.cell? ⟨py, 1, none⟩ = V1.cell? ⟨py, 1, none⟩ by rw [hV2, set3_far (by show py ≠ px; omega)]).trans y1
          have y2 := (show V2.cell? ⟨py, 2, none⟩ = V1.cell? ⟨py, 2, none⟩ by rw [hV2, set3_far (by show py ≠ px; omega)]).trans y2
          have fw := (show V2.cell? ⟨pw, 0, none⟩ = V1.cell? ⟨pw, 0, none⟩ by rw [hV2, set3_far (by show pw ≠ px; omega)]).trans fw
          have fr := (show V2.cell? ⟨pr, 0, none⟩ = V1.cell? ⟨pr, 0, none⟩ by rw [hV2, set3_far (by show pr ≠ px; omega)]).trans fr
          obtain ⟨x0, x1, x2⟩ := z3
          have HB : Hid (Below w.heap.size w V2) := by show Below _ _ _; rw [hV2]; exact below3 HB.out (by omega)
          clear hV2
          refine (rvscale_law pr 0 bad a0_0 a0_1 a0_2 a2_0 _ fr frf).mono ?_
          rintro e V3 ⟨u0, u1, u2, h, rfl, S2, A⟩
          have xa0 := A.out.cellOf xa0 (by show pa ≠ pr; omega)
          have xa1 := A.out.cellOf xa1 (by show pa ≠ pr; omega)
          have xa2 := A.out.cellOf xa2 (by show pa ≠ pr; omega)
          have xb0 := A.out.cellOf xb0 (by show pb ≠ pr; omega)
          have xb1 := A.out.cellOf xb1 (by show pb ≠ pr; omega)
          have xb2 := A.out.cellOf xb2 (by show pb ≠ pr; omega)
          have xf0 := A.out.frozenOf x0 xf0 (by show px ≠ pr; omega)
          have x0 := A.out.cellOf x0 (by show px ≠ pr; omega)
          have xf1 := A.out.frozenOf x1 xf1 (by show px ≠ pr; omega)
          have x1 := A.out.cellOf x1 (by show px ≠ pr; omega)
          have xf2 := A.out.frozenOf x2 xf2 (by show px ≠ pr; omega)
          have x2 := A.out.cellOf x2 (by show px ≠ pr; omega)
          have yf0 := A.out.frozenOf y0 yf0 (by show py ≠ pr; omega)
          have y0 := A.out.cellOf y0 (by show py ≠ pr; omega)
          have yf1 := A.out.frozenOf y1 yf1 (by show py ≠ pr; omega)
          have y1 := A.out.cellOf y1 (by show py ≠ pr; omega)
          have yf2 := A.out.frozenOf y2 yf2 (by show py ≠ pr; omega)
          have y2 := A.out.cellOf y2 (by show py ≠ pr; omega)
          have fwf := A.out.frozenOf fw fwf (by show pw ≠ pr; omega)
          have fw := A.out.cellOf fw (by show pw ≠ pr; omega)
          have fr := A.out.cell
          have frf := A.out.frozen
          have HB : Hid _ := A.out.below _ _ HB.out (by show w.heap.size ≤ pr; omega) HB.out.size
          clear A
          obtain ⟨rfl, rfl, rfl, rfl⟩ := step3_same S1.out S2.out
          clear S1 S2
          go_wp2_with (fail)
          obtain ⟨V4, hV4⟩ : ∃ V, V = (((V3.setCell ⟨py, 0, none⟩ (.int .i64 (u0))).setCell ⟨py, 1, none⟩ (.int .i64 (u1))).setCell ⟨py, 2, none⟩ (.int .i64 (u2))) := ⟨_, rfl⟩
          rw [← hV4]
          have xf0 : V4.frozen? ⟨px, 0, none⟩ = false := by rw [hV4, set3_frozen]; exact xf0
          have xf1 : V4.frozen? ⟨px, 1, none⟩ = false := by rw [hV4, set3_frozen]; exact xf1
          have xf2 : V4.frozen? ⟨px, 2, none⟩ = false := by rw [hV4, set3_frozen]; exact xf2
          have yf0 : V4.frozen? ⟨py, 0, none⟩ = false := by rw [hV4, set3_frozen]; exact yf0
          have yf1 : V4.frozen? ⟨py, 1, none⟩ = false := by rw [hV4, set3_frozen]; exact yf1
          have yf2 : V4.frozen? ⟨py, 2, none⟩ = false := by rw [hV4, set3_frozen]; exact yf2
          have fwf : V4.frozen? ⟨pw, 0, none⟩ = false := by rw [hV4, set3_frozen]; exact fwf
          have frf : V4.frozen? ⟨pr, 0, none⟩ = false := by rw [hV4, set3_frozen]; exact frf
          have z3 := set3_at y0 y1 y2 (.int .i64 (u0)) (.int .i64 (u1)) (.int .i64 (u2))
          rw [← hV4] at z3
          have xa0 := (show V4.cell? ⟨pa, 0, none⟩ = V3.cell? ⟨pa, 0, none⟩ by rw [hV4, set3_far (by show pa ≠ py; omega)]).trans xa0
          have xa1 := (show V4.cell? ⟨pa, 1, none⟩ = V3.cell? ⟨pa, 1, none⟩ by rw [hV4, set3_far (by show pa ≠ py; omega)]).trans xa1
          have xa2 := (show V4.cell? ⟨pa, 2, none⟩ = V3.cell? ⟨pa, 2, none⟩ by rw [hV4, set3_far (by show pa ≠ py; omega)]).trans xa2
          have xb0 := (show V4.cell? ⟨pb, 0, none⟩ = V3.cell? ⟨pb, 0, none⟩ by rw [hV4, set3_far (by show pb ≠ py; omega)]).trans xb0
          have xb1 := (show V4.cell? ⟨pb, 1, none⟩ = V3.cell? ⟨pb, 1, none⟩ by rw [hV4, set3_far (by show pb ≠ py; omega)]).trans xb1
          have xb2 := (show V4.cell? ⟨pb, 2, none⟩ = V3.cell? ⟨pb, 2, none⟩ by rw [hV4, set3_far (by show pb ≠ py; omega)]).trans xb2
          have x0 := (show V4.cell? ⟨px, 0, none⟩ = V3.cell? ⟨px, 0, none⟩ by rw [hV4, set3_far (by show px ≠ py; omega)]).trans x0
          have x1 := (show V4.cell? ⟨px, 1, none⟩ = V3.cell? ⟨px, 1, none⟩ by rw [hV4, set3_far (by show px ≠ py; omega)]).trans x1
          have x2 := (show V4.cell? ⟨px, 2, none⟩ = V3.cell? ⟨px, 2, none⟩ by rw [hV4, set3_far (by show px ≠ py; omega)]).trans x2
          have fw := (show V4.cell? ⟨pw, 0, none⟩ = V3.cell? ⟨pw, 0, none⟩ by rw [hV4, set3_far (by show pw ≠ py; omega)]).trans fw
          have fr := (show V4.cell? ⟨pr, 0, none⟩ = V3.cell? ⟨pr, 0, none⟩ by rw [hV4, set3_far (by show pr ≠ py; omega)]).trans fr
          obtain ⟨y0, y1, y2⟩ := z3
          have HB : Hid (Below w.heap.size w V4) := by show Below _ _ _; rw [hV4]; exact below3 HB.out (by omega)
          clear hV4
          go_meet
          case rel => exact ⟨u0, u1, u2, h, HB, xa0, xa1, xa2, xb0, xb1, xb2, x0, x1, x2, y0, y1, y2, fw, fr⟩
        · go_wp2_with (fail)
          refine (vdot_law pw 0 bad a0_0 a0_1 a0_2 a1_0 a1_1 a1_2 _ fw fwf).mono ?_
          rintro e V1 ⟨v0, g, rfl, S1, A⟩
          have xa0 := A.out.cellOf xa0 (by show pa ≠ pw; omega)
          have xa1 := A.out.cellOf xa1 (by show pa ≠ pw; omega)
          have xa2 := A.out.cellOf xa2 (by show pa ≠ pw; omega)
          have xb0 := A.out.cellOf xb0 (by show pb ≠ pw; omega)
          have xb1 := A.out.cellOf xb1 (by show pb ≠ pw; omega)
          have xb2 := A.out.cellOf xb2 (by show pb ≠ pw; omega)
          have xf0 := A.out.frozenOf x0 xf0 (by show px ≠ pw; omega)
          have x0 := A.out.cellOf x0 (by show px ≠ pw; omega)
          have xf1 := A.out.frozenOf x1 xf1 (by show px ≠ pw; omega)
          have x1 := A.out.cellOf x1 (by show px ≠ pw; omega)
          have xf2 := A.out.frozenOf x2 xf2 (by show px ≠ pw; omega)
          have x2 := A.out.cellOf x2 (by show px ≠ pw; omega)
          have yf0 := A.out.frozenOf y0 yf0 (by show py ≠ pw; omega)
          have y0 := A.out.cellOf y0 (by show py ≠ pw; omega)
          have yf1 := A.out.frozenOf y1 yf1 (by show py ≠ pw; omega)
          have y1 := A.out.cellOf y1 (by show py ≠ pw; omega)
          have yf2 := A.out.frozenOf y2 yf2 (by show py ≠ pw; omega)
          have y2 := A.out.cellOf y2 (by show py ≠ pw; omega)
          have frf := A.out.frozenOf fr frf (by show pr ≠ pw; omega)
          have fr := A.out.cellOf fr (by show pr ≠ pw; omega)
          have fw := A.out.cell
          have fwf := A.out.frozen
          have HB : Hid _ := A.out.below _ _ HB.out (by show w.heap.size ≤ pw; omega) HB.out.size
          clear A
          go_wp2_with (fail)
          obtain ⟨V2, hV2⟩ : ∃ V, V = (V1.setCell ⟨px, 0, none⟩ (.int .i64 (v0))) := ⟨_, rfl⟩
          rw [← hV2]
          have xf0 : V2.frozen? ⟨px, 0, none⟩ = false := by rw [hV2, set1_frozen]; exact xf0
          have xf1 : V2.frozen? ⟨px, 1, none⟩ = false := by rw [hV2, set1_frozen]; exact xf1
          have xf2 : V2.frozen? ⟨px, 2, none⟩ = false := by rw [hV2, set1_frozen]; exact xf2
          have yf0 : V2.frozen? ⟨py, 0, none⟩ = false := by rw [hV2, set1_frozen]; exact yf0
          have yf1 : V2.frozen? ⟨py, 1, none⟩ = false := by rw [hV2, set1_frozen]; exact yf1
          have yf2 : V2.frozen? ⟨py, 2, none⟩ = false := by rw [hV2, set1_frozen]; exact yf2
          have fwf : V2.frozen? ⟨pw, 0, none⟩ = false := by rw [hV2, set1_frozen]; exact fwf
          have frf : V2.frozen? ⟨pr, 0, none⟩ = false := by rw [hV2, set1_frozen]; exact frf
          have z3 := set1_at x0 x1 x2 (.int .i64 (v0))
          rw [← hV2] at z3
          have xa0 := (show V2.cell? ⟨pa, 0, none⟩ = V1.cell? ⟨pa, 0, none⟩ by rw [hV2, set1_far (by show pa ≠ px; omega)]).trans xa0
          have xa1 := (show V2.cell? ⟨pa, 1, none⟩ = V1.cell? ⟨pa, 1, none⟩ by rw [hV2, set1_far (by show pa ≠ px; omega)]).trans xa1
          have xa2 := (show V2.cell? ⟨pa, 2, none⟩ = V1.cell? ⟨pa, 2, none⟩ by rw [hV2, set1_far (by show pa ≠ px; omega)]).trans xa2
          have xb0 := (show V2.cell? ⟨pb, 0, none⟩ = V1.cell? ⟨pb, 0, none⟩ by rw [hV2, set1_far (by show pb ≠ px; omega)]).trans xb0
          have xb1 := (show V2.cell? ⟨pb, 1, none⟩ = V1.cell? ⟨pb, 1, none⟩ by rw [hV2, set1_far (by show pb ≠ px; omega)]).trans xb1
          have xb2 := (show V2.cell? ⟨pb, 2, none⟩ = V1.cell? ⟨pb, 2, none⟩ by rw [hV2, set1_far (by show pb ≠ px; omega)]).trans xb2
          have y0 := (show V2.cell? ⟨py, 0, none⟩ = V1.cell? ⟨py, 0, none⟩ by rw [hV2, set1_far (by show py ≠ px; omega)]).trans y0
          have y1 := (show V2.cell? ⟨py, 1, none⟩ = V1.cell? ⟨py, 1, none⟩ by rw [hV2, set1_far (by show py ≠ px; omega)]).trans y1
          have y2 := (show V2.cell? ⟨py, 2, none⟩ = V1.cell? ⟨py, 2, none⟩ by rw [hV2, set1_far (by show py ≠ px; omega)]).trans y2
          have fw := (show V2.cell? ⟨pw, 0, none⟩ = V1.cell? ⟨pw, 0, none⟩ by rw [hV2, set1_far (by show pw ≠ px; omega)]).trans fw
          have fr := (show V2.cell? ⟨pr, 0, none⟩ = V1.cell? ⟨pr, 0, none⟩ by rw [hV2, set1_far (by show pr ≠ px; omega)]).trans fr
          obtain ⟨x0, x1, x2⟩ := z3
          have HB : Hid (Below w.heap.size w V2) := by show Below _ _ _; rw [hV2]; exact below1 HB.out (by omega)
          clear hV2
          refine (rvdot_law pr 0 bad a0_0 a0_1 a0_2 a1_0 a1_1 a1_2 _ fr frf).mono ?_
          rintro e V3 ⟨u0, h, rfl, S2, A⟩
          have xa0 := A.out.cellOf xa0 (by show pa ≠ pr; omega)
          have xa1 := A.out.cellOf xa1 (by show pa ≠ pr; omega)
          have xa2 := A.out.cellOf xa2 (by show pa ≠ pr; omega)
          have xb0 := A.out.cellOf xb0 (by show pb ≠ pr; omega)
          have xb1 := A.out.cellOf xb1 (by show pb ≠ pr; omega)
          have xb2 := A.out.cellOf xb2 (by show pb ≠ pr; omega)
          have xf0 := A.out.frozenOf x0 xf0 (by show px ≠ pr; omega)
          have x0 := A.out.cellOf x0 (by show px ≠ pr; omega)
          have xf1 := A.out.frozenOf x1 xf1 (by show px ≠ pr; omega)
          have x1 := A.out.cellOf x1 (by show px ≠ pr; omega)
          have xf2 := A.out.frozenOf x2 xf2 (by show px ≠ pr; omega)
          have x2 := A.out.cellOf x2 (by show px ≠ pr; omega)
          have yf0 := A.out.frozenOf y0 yf0 (by show py ≠ pr; omega)
          have y0 := A.out.cellOf y0 (by show py ≠ pr; omega)
          have yf1 := A.out.frozenOf y1 yf1 (by show py ≠ pr; omega)
          have y1 := A.out.cellOf y1 (by show py ≠ pr; omega)
          have yf2 := A.out.frozenOf y2 yf2 (by show py ≠ pr; omega)
          have y2 := A.out.cellOf y2 (by show py ≠ pr; omega)
          have fwf := A.out.frozenOf fw fwf (by show pw ≠ pr; omega)
          have fw := A.out.cellOf fw (by show pw ≠ pr; omega)
          have fr := A.out.cell
          have frf := A.out.frozen
          have HB : Hid _ := A.out.below _ _ HB.out (by show w.heap.size ≤ pr; omega) HB.out.size
          clear A
          obtain ⟨rfl, rfl⟩ := step_same S1.out S2.out
          clear S1 S2
          go_wp2_with (fail)
          obtain ⟨V4, hV4⟩ : ∃ V, V = (V3.setCell ⟨py, 0, none⟩ (.int .i64 (u0))) := ⟨_, rfl⟩
          rw [← hV4]
          have xf0 : V4.frozen? ⟨px, 0, none⟩ = false := by rw [hV4, set1_frozen]; exact xf0
          have xf1 : V4.frozen? ⟨px, 1, none⟩ = false := by rw [hV4, set1_frozen]; exact xf1
          have xf2 : V4.frozen? ⟨px, 2, none⟩ = false := by rw [hV4, set1_frozen]; exact xf2
          have yf0 : V4.frozen? ⟨py, 0, none⟩ = false := by rw [hV4, set1_frozen]; exact yf0
          have yf1 : V4.frozen? ⟨py, 1, none⟩ = false := by rw [hV4, set1_frozen]; exact yf1
          have yf2 : V4.frozen? ⟨py, 2, none⟩ = false := by rw [hV4, set1_frozen]; exact yf2
          have fwf : V4.frozen? ⟨pw, 0, none⟩ = false := by rw [hV4, set1_frozen]; exact fwf
          have frf : V4.frozen? ⟨pr, 0, none⟩ = false := by rw [hV4, set1_frozen]; exact frf
          have z3 := set1_at y0 y1 y2 (.int .i64 (u0))
          rw [← hV4] at z3
          have xa0 := (show V4.cell? ⟨pa, 0, none⟩ = V3.cell? ⟨pa, 0, none⟩ by rw [hV4, set1_far (by show pa ≠ py; omega)]).trans xa0
          have xa1 := (show V4.cell? ⟨pa, 1, none⟩ = V3.cell? ⟨pa, 1, none⟩ by rw [hV4, set1_far (by show pa ≠ py; omega)]).trans xa1
          have xa2 := (show V4.cell? ⟨pa, 2, none⟩ = V3.cell? ⟨pa, 2, none⟩ by rw [hV4, set1_far (by show pa ≠ py; omega)]).trans xa2
          have xb0 := (show V4.cell? ⟨pb, 0, none⟩ = V3.cell? ⟨pb, 0, none⟩ by rw [hV4, set1_far (by show pb ≠ py; omega)]).trans xb0
          have xb1 := (show V4.cell? ⟨pb, 1, none⟩ = V3.cell? ⟨pb, 1, none⟩ by rw [hV4, set1_far (by show pb ≠ py; omega)]).trans xb1
          have xb2 := (show V4.cell? ⟨pb, 2, none⟩ = V3.cell? ⟨pb, 2, none⟩ by rw [hV4, set1_far (by show pb ≠ py; omega)]).trans xb2
          have x0 := (show V4.cell? ⟨px, 0, none⟩ = V3.cell? ⟨px, 0, none⟩ by rw [hV4, set1_far (by show px ≠ py; omega)]).trans x0
          have x1 := (show V4.cell? ⟨px, 1, none⟩ = V3.cell? ⟨px, 1, none⟩ by rw [hV4, set1_far (by show px ≠ py; omega)]).trans x1
          have x2 := (show V4.cell? ⟨px, 2, none⟩ = V3.cell? ⟨px, 2, none⟩ by rw [hV4, set1_far (by show px ≠ py; omega)]).trans x2
          have fw := (show V4.cell? ⟨pw, 0, none⟩ = V3.cell? ⟨pw, 0, none⟩ by rw [hV4, set1_far (by show pw ≠ py; omega)]).trans fw
          have fr := (show V4.cell? ⟨pr, 0, none⟩ = V3.cell? ⟨pr, 0, none⟩ by rw [hV4, set1_far (by show pr ≠ py; omega)]).trans fr
          obtain ⟨y0, y1, y2⟩ := z3
          have HB : Hid (Below w.heap.size w V4) := by show Below _ _ _; rw [hV4]; exact below1 HB.out (by omega)
          clear hV4
          go_meet
          case rel => exact ⟨u0, 0, 0, h, HB, xa0, xa1, xa2, xb0, xb1, xb2, x0, x1, x2, y0, y1, y2, fw, fr⟩
        · go_wp2_with (fail)
          refine (vcross_law pw 0 bad a0_0 a0_1 a0_2 a1_0 a1_1 a1_2 _ fw fwf).mono ?_
          rintro e V1 ⟨v0, v1, v2, g, rfl, S1, A⟩
          have xa0 := A.out.cellOf xa0 (by show pa ≠ pw; omega)
          have xa1 := A.out.cellOf xa1 (by show pa ≠ pw; omega)
          have xa2 := A.out.cellOf xa2 (by show pa ≠ pw; omega)
          have xb0 := A.out.cellOf xb0 (by show pb ≠ pw; omega)
          have xb1 := A.out.cellOf xb1 (by show pb ≠ pw; omega)
          have xb2 := A.out.cellOf xb2 (by show pb ≠ pw; omega)
          have xf0 := A.out.frozenOf x0 xf0 (by show px ≠ pw; omega)
          have x0 := A.out.cellOf x0 (by show px ≠ pw; omega)
          have xf1 := A.out.frozenOf x1 xf1 (by show px ≠ pw; omega)
          have x1 := A.out.cellOf x1 (by show px ≠ pw; omega)
          have xf2 := A.out.frozenOf x2 xf2 (by show px ≠ pw; omega)
          have x2 := A.out.cellOf x2 (by show px ≠ pw; omega)
          have yf0 := A.out.frozenOf y0 yf0 (by show py ≠ pw; omega)
          have y0 := A.out.cellOf y0 (by show py ≠ pw; omega)
          have yf1 := A.out.frozenOf y1 yf1 (by show py ≠ pw; omega)
          have y1 := A.out.cellOf y1 (by show py ≠ pw; omega)
          have yf2 := A.out.frozenOf y2 yf2 (by show py ≠ pw; omega)
          have y2 := A.out.cellOf y2 (by show py ≠ pw; omega)
          have frf := A.out.frozenOf fr frf (by show pr ≠ pw; omega)
          have fr := A.out.cellOf fr (by show pr ≠ pw; omega)
          have fw := A.out.cell
          have fwf := A.out.frozen
          have HB : Hid _ := A.out.below _ _ HB.out (by show w.heap.size ≤ pw; omega) HB.out.size
          clear A
          go_wp2_with (fail)
          obtain ⟨V2, hV2⟩ : ∃ V, V = (((V1.setCell ⟨px, 0, none⟩ (.int .i64 (v0))).setCell ⟨px, 1, none⟩ (.int .i64 (v1))).setCell ⟨px, 2, none⟩ (.int .i64 (v2))) := ⟨_, rfl⟩
          rw [← hV2]
          have xf0 : V2.frozen? ⟨px, 0, none⟩ = false := by rw [hV2, set3_frozen]; exact xf0
          have xf1 : V2.frozen? ⟨px, 1, none⟩ = false := by rw [hV2, set3_frozen]; exact xf1
          have xf2 : V2.frozen? ⟨px, 2, none⟩ = false := by rw [hV2, set3_frozen]; exact xf2
          have yf0 : V2.frozen? ⟨py, 0, none⟩ = false := by rw [hV2, set3_frozen]; exact yf0
          have yf1 : V2.frozen? ⟨py, 1, none⟩ = false := by rw [hV2, set3_frozen]; exact yf1
          have yf2 : V2.frozen? ⟨py, 2, none⟩ = false := by rw [hV2, set3_frozen]; exact yf2
          have fwf : V2.frozen? ⟨pw, 0, none⟩ = false := by rw [hV2, set3_frozen]; exact fwf
          have frf : V2.frozen? ⟨pr, 0, none⟩ = false := by rw [hV2, set3_frozen]; exact frf
          have z3 := set3_at x0 x1 x2 (.int .i64 (v0)) (.int .i64 (v1)) (.int .i64 (v2))
          rw [← hV2] at z3
          have xa0 := (show V2.cell? ⟨pa, 0, none⟩ = V1.cell? ⟨pa, 0, none⟩ by rw [hV2, set3_far (by show pa ≠ px; omega)]).trans xa0
          have xa1 := (show V2.cell? ⟨pa, 1, none⟩ = V1.cell? ⟨pa, 1, none⟩ by rw [hV2, set3_far (by show pa ≠ px; omega)]).trans xa1
          have xa2 := (show V2.cell? ⟨pa, 2, none⟩ = V1.cell? ⟨pa, 2, none⟩ by rw [hV2, set3_far (by show pa ≠ px; omega)]).trans xa2
          have xb0 := (show V2.cell? ⟨pb, 0, none⟩ = V1.cell? ⟨pb, 0, none⟩ by rw [hV2, set3_far (by show pb ≠ px; omega)]).trans xb0
          have xb1 := (show V2.cell? ⟨pb, 1, none⟩ = V1.cell? ⟨pb, 1, none⟩ by rw [hV2, set3_far (by show pb ≠ px; omega)]).trans xb1
          have xb2 := (show V2.cell? ⟨pb, 2, none⟩ = V1.cell? ⟨pb, 2, none⟩ by rw [hV2, set3_far (by show pb ≠ px; omega)]).trans xb2
          have y0 := (show V2.cell? ⟨py, 0, none⟩ = V1.cell? ⟨py, 0, none⟩ by rw [hV2, set3_far (by show py ≠ px; omega)]).trans y0
          have y1 := (show V2.cell? ⟨py, 1, none⟩ = V1.cell? ⟨py, 1, none⟩ by rw [hV2, set3_far (by show py ≠ px; omega)]).trans y1
          have y2 := (show V2.cell? ⟨py, 2, none⟩ = V1.cell? ⟨py, 2, none⟩ by rw [hV2, set3_far (by show py ≠ px; omega)]).trans y2
          have fw := (show V2.cell? ⟨pw, 0, none⟩ = V1.cell? ⟨pw, 0, none⟩ by rw [hV2, set3_far (by show pw ≠ px; omega)]).trans fw
          have fr := (show V2.cell? ⟨pr, 0, none⟩ = V1.cell? ⟨pr, 0, none⟩ by rw [hV2, set3_far (by show pr ≠ px; omega)]).trans fr
          obtain ⟨x0, x1, x2⟩ := z3
          have HB : Hid (Below w.heap.size w V2) := by show Below _ _ _; rw [hV2]; exact below3 HB.out (by omega)
          clear hV2
          refine (rvcross_law pr 0 bad a0_0 a0_1 a0_2 a1_0 a1_1 a1_2 _ fr frf).mono ?_
          rintro e V3 ⟨u0, u1, u2, h, rfl, S2, A⟩
          have xa0 := A.out.cellOf xa0 (by show pa ≠ pr; omega)
          have xa1 := A.out.cellOf xa1 (by show pa ≠ pr; omega)
          have xa2 := A.out.cellOf xa2 (by show pa ≠ pr; omega)
          have xb0 := A.out.cellOf xb0 (by show pb ≠ pr; omega)
          have xb1 := A.out.cellOf xb1 (by show pb ≠ pr; omega)
          have xb2 := A.out.cellOf xb2 (by show pb ≠ pr; omega)
          have xf0 := A.out.frozenOf x0 xf0 (by show px ≠ pr; omega)
          have x0 := A.out.cellOf x0 (by show px ≠ pr; omega)
          have xf1 := A.out.frozenOf x1 xf1 (by show px ≠ pr; omega)
          have x1 := A.out.cellOf x1 (by show px ≠ pr; omega)
          have xf2 := A.out.frozenOf x2 xf2 (by show px ≠ pr; omega)
          have x2 := A.out.cellOf x2 (by show px ≠ pr; omega)
          have yf0 := A.out.frozenOf y0 yf0 (by show py ≠ pr; omega)
          have y0 := A.out.cellOf y0 (by show py ≠ pr; omega)
          have yf1 := A.out.frozenOf y1 yf1 (by show py ≠ pr; omega)
          have y1 := A.out.cellOf y1 (by show py ≠ pr; omega)
          have yf2 := A.out.frozenOf y2 yf2 (by show py ≠ pr; omega)
          have y2 := A.out.cellOf y2 (by show py ≠ pr; omega)
          have fwf := A.out.frozenOf fw fwf (by show pw ≠ pr; omega)
          have fw := A.out.cellOf fw (by show pw ≠ pr; omega)
          have fr := A.out.cell
          have frf := A.out.frozen
          have HB : Hid _ := A.out.below _ _ HB.out (by show w.heap.size ≤ pr; omega) HB.out.size
          clear A
          obtain ⟨rfl, rfl, rfl, rfl⟩ := step3_same S1.out S2.out
          clear S1 S2
          go_wp2_with (fail)
          obtain ⟨V4, hV4⟩ : ∃ V, V = (((V3.setCell ⟨py, 0, none⟩ (.int .i64 (u0))).setCell ⟨py, 1, none⟩ (.int .i64 (u1))).setCell ⟨py, 2, none⟩ (.int .i64 (u2))) := ⟨_, rfl⟩
          rw [← hV4]
          have xf0 : V4.frozen? ⟨px, 0, none⟩ = false := by rw [hV4, set3_frozen]; exact xf0
          have xf1 : V4.frozen? ⟨px, 1, none⟩ = false := by rw [hV4, set3_frozen]; exact xf1
          have xf2 : V4.frozen? ⟨px, 2, none⟩ = false := by rw [hV4, set3_frozen]; exact xf2
          have yf0 : V4.frozen? ⟨py, 0, none⟩ = false := by rw [hV4, set3_frozen]; exact yf0
          have yf1 : V4.frozen? ⟨py, 1, none⟩ = false := by rw [hV4, set3_frozen]; exact yf1
          have yf2 : V4.frozen? ⟨py, 2, none⟩ = false := by rw [hV4, set3_frozen]; exact yf2
          have fwf : V4.frozen? ⟨pw, 0, none⟩ = false := by rw [hV4, set3_frozen]; exact fwf
          have frf : V4.frozen? ⟨pr, 0, none⟩ = false := by rw [hV4, set3_frozen]; exact frf
          have z3 := set3_at y0 y1 y2 (.int .i64 (u0)) (.int .i64 (u1)) (.int .i64 (u2))
          rw [← hV4] at z3
          have xa0 := (show V4.cell? ⟨pa, 0, none⟩ = V3.cell? ⟨pa, 0, none⟩ by rw [hV4, set3_far (by show pa ≠ py; omega)]).trans xa0
          have xa1 := (show V4.cell? ⟨pa, 1, none⟩ = V3.cell? ⟨pa, 1, none⟩ by rw [hV4, set3_far (by show pa ≠ py; omega)]).trans xa1
          have xa2 := (show V4.cell? ⟨pa, 2, none⟩ = V3.cell? ⟨pa, 2, none⟩ by rw [hV4, set3_far (by show pa ≠ py; omega)]).trans xa2
          have xb0 := (show V4.cell? ⟨pb, 0, none⟩ = V3.cell? ⟨pb, 0, none⟩ by rw [hV4, set3_far (by show pb ≠ py; omega)]).trans xb0
          have xb1 := (show V4.cell? ⟨pb, 1, none⟩ = V3.cell? ⟨pb, 1, none⟩ by rw [hV4, set3_far (by show pb ≠ py; omega)]).trans xb1
          have xb2 := (show V4.cell? ⟨pb, 2, none⟩ = V3.cell? ⟨pb, 2, none⟩ by rw [hV4, set3_far (by show pb ≠ py; omega)]).trans xb2
          have x0 := (show V4.cell? ⟨px, 0, none⟩ = V3.cell? ⟨px, 0, none⟩ by rw [hV4, set3_far (by show px ≠ py; omega)]).trans x0
          have x1 := (show V4.cell? ⟨px, 1, none⟩ = V3.cell? ⟨px, 1, none⟩ by rw [hV4, set3_far (by show px ≠ py; omega)]).trans x1
          have x2 := (show V4.cell? ⟨px, 2, none⟩ = V3.cell? ⟨px, 2, none⟩ by rw [hV4, set3_far (by show px ≠ py; omega)]).trans x2
          have fw := (show V4.cell? ⟨pw, 0, none⟩ = V3.cell? ⟨pw, 0, none⟩ by rw [hV4, set3_far (by show pw ≠ py; omega)]).trans fw
          have fr := (show V4.cell? ⟨pr, 0, none⟩ = V3.cell? ⟨pr, 0, none⟩ by rw [hV4, set3_far (by show pr ≠ py; omega)]).trans fr
          obtain ⟨y0, y1, y2⟩ := z3
          have HB : Hid (Below w.heap.size w V4) := by show Below _ _ _; rw [hV4]; exact below3 HB.out (by omega)
          clear hV4
          go_meet
          case rel => exact ⟨u0, u1, u2, h, HB, xa0, xa1, xa2, xb0, xb1, xb2, x0, x1, x2, y0, y1, y2, fw, fr⟩
        · go_wp2_with (fail)
          refine (vlen_law pw 0 bad a0_0 a0_1 a0_2 _ fw fwf).mono ?_
          rintro e V1 ⟨v0, g, rfl, S1, A⟩
          have xa0 := A.out.cellOf xa0 (by show pa ≠ pw; omega)
          have xa1 := A.out.cellOf xa1 (by show pa ≠ pw; omega)
          have xa2 := A.out.cellOf xa2 (by show pa ≠ pw; omega)
          have xb0 := A.out.cellOf xb0 (by show pb ≠ pw; omega)
          have xb1 := A.out.cellOf xb1 (by show pb ≠ pw; omega)
          have xb2 := A.out.cellOf xb2 (by show pb ≠ pw; omega)
          have xf0 := A.out.frozenOf x0 xf0 (by show px ≠ pw; omega)
          have x0 := A.out.cellOf x0 (by show px ≠ pw; omega)
          have xf1 := A.out.frozenOf x1 xf1 (by show px ≠ pw; omega)
          have x1 := A.out.cellOf x1 (by show px ≠ pw; omega)
          have xf2 := A.out.frozenOf x2 xf2 (by show px ≠ pw; omega)
          have x2 := A.out.cellOf x2 (by show px ≠ pw; omega)
          have yf0 := A.out.frozenOf y0 yf0 (by show py ≠ pw; omega)
          have y0 := A.out.cellOf y0 (by show py ≠ pw; omega)
          have yf1 := A.out.frozenOf y1 yf1 (by show py ≠ pw; omega)
          have y1 := A.out.cellOf y1 (by show py ≠ pw; omega)
          have yf2 := A.out.frozenOf y2 yf2 (by show py ≠ pw; omega)
          have y2 := A.out.cellOf y2 (by show py ≠ pw; omega)
          have frf := A.out.frozenOf fr frf (by show pr ≠ pw; omega)
          have fr := A.out.cellOf fr (by show pr ≠ pw; omega)
          have fw := A.out.cell
          have fwf := A.out.frozen
          have HB : Hid _ := A.out.below _ _ HB.out (by show w.heap.size ≤ pw; omega) HB.out.size
          clear A
          go_wp2_with (fail)
          obtain ⟨V2, hV2⟩ : ∃ V, V = (V1.setCell ⟨px, 0, none⟩ (.int .i64 (v0))) := ⟨_, rfl⟩
          rw [← hV2]
          have xf0 : V2.frozen? ⟨px, 0, none⟩ = false := by rw [hV2, set1_frozen]; exact xf0
          have xf1 : V2.frozen? ⟨px, 1, none⟩ = false := by rw [hV2, set1_frozen]; exact xf1
          have xf2 : V2.frozen? ⟨px, 2, none⟩ = false := by rw [hV2, set1_frozen]; exact xf2
          have yf0 : V2.frozen? ⟨py, 0, none⟩ = false := by rw [hV2, set1_frozen]; exact yf0
          have yf1 : V2.frozen? ⟨py, 1, none⟩ = false := by rw [hV2, set1_frozen]; exact yf1
          have yf2 : V2.frozen? ⟨py, 2, none⟩ = false := by rw [hV2, set1_frozen]; exact yf2
          have fwf : V2.frozen? ⟨pw, 0, none⟩ = false := by rw [hV2, set1_frozen]; exact fwf
          have frf : V2.frozen? ⟨pr, 0, none⟩ = false := by rw [hV2, set1_frozen]; exact frf
          have z3 := set1_at x0 x1 x2 (.int .i64 (v0))
          rw [← hV2] at z3
          have xa0 := (show V2.cell? ⟨pa, 0, none⟩ = V1.cell? ⟨pa, 0, none⟩ by rw [hV2, set1_far (by show pa ≠ px; omega)]).trans xa0
          have xa1 := (show V2.cell? ⟨pa, 1, none⟩ = V1.cell? ⟨pa, 1, none⟩ by rw [hV2, set1_far (by show pa ≠ px; omega)]).trans xa1
          have xa2 := (show V2.cell? ⟨pa, 2, none⟩ = V1.cell? ⟨pa, 2, none⟩ by rw [hV2, set1_far (by show pa ≠ px; omega)]).trans xa2
          have xb0 := (show V2.cell? ⟨pb, 0, none⟩ = V1.cell? ⟨pb, 0, none⟩ by rw [hV2, set1_far (by show pb ≠ px; omega)]).trans xb0
          have xb1 := (show V2.cell? ⟨pb, 1, none⟩ = V1.cell? ⟨pb, 1, none⟩ by rw [hV2, set1_far (by show pb ≠ px; omega)]).trans xb1
          have xb2 := (show V2.cell? ⟨pb, 2, none⟩ = V1.cell? ⟨pb, 2, none⟩ by rw [hV2, set1_far (by show pb ≠ px; omega)]).trans xb2
          have y0 := (show V2.cell? ⟨py, 0, none⟩ = V1.cell? ⟨py, 0, none⟩ by rw [hV2, set1_far (by show py ≠ px; omega)]).trans y0
          have y1 := (show V2.cell? ⟨py, 1, none⟩ = V1.cell? ⟨py, 1, none⟩ by rw [hV2, set1_far (by show py ≠ px; omega)]).trans y1
          have y2 := (show V2.cell? ⟨py, 2, none⟩ = V1.cell? ⟨py, 2, none⟩ by rw [hV2, set1_far (by show py ≠ px; omega)]).trans y2
          have fw := (show V2.cell? ⟨pw, 0, none⟩ = V1.cell? ⟨pw, 0, none⟩ by rw [hV2, set1_far (by show pw ≠ px; omega)]).trans fw
          have fr := (show V2.cell? ⟨pr, 0, none⟩ = V1.cell? ⟨pr, 0, none⟩ by rw [hV2, set1_far (by show pr ≠ px; omega)]).trans fr
          obtain ⟨x0, x1, x2⟩ := z3
          have HB : Hid (Below w.heap.size w V2) := by show Below _ _ _; rw [hV2]; exact below1 HB.out (by omega)
          clear hV2
          refine (rvlen_law pr 0 bad a0_0 a0_1 a0_2 _ fr frf).mono ?_
          rintro e V3 ⟨u0, h, rfl, S2, A⟩
          have xa0 := A.out.cellOf xa0 (by show pa ≠ pr; omega)
          have xa1 := A.out.cellOf xa1 (by show pa ≠ pr; omega)
          have xa2 := A.out.cellOf xa2 (by show pa ≠ pr; omega)
          have xb0 := A.out.cellOf xb0 (by show pb ≠ pr; omega)
          have xb1 := A.out.cellOf xb1 (by show pb ≠ pr; omega)
          have xb2 := A.out.cellOf xb2 (by show pb ≠ pr; omega)
          have xf0 := A.out.frozenOf x0 xf0 (by show px ≠ pr; omega)
          have x0 := A.out.cellOf x0 (by show px ≠ pr; omega)
          have xf1 := A.out.frozenOf x1 xf1 (by show px ≠ pr; omega)
          have x1 := A.out.cellOf x1 (by show px ≠ pr; omega)
          have xf2 := A.out.frozenOf x2 xf2 (by show px ≠ pr; omega)
          have x2 := A.out.cellOf x2 (by show px ≠ pr; omega)
          have yf0 := A.out.frozenOf y0 yf0 (by show py ≠ pr; omega)
          have y0 := A.out.cellOf y0 (by show py ≠ pr; omega)
          have yf1 := A.out.frozenOf y1 yf1 (by show py ≠ pr; omega)
          have y1 := A.out.cellOf y1 (by show py ≠ pr; omega)
          have yf2 := A.out.frozenOf y2 yf2 (by show py ≠ pr; omega)
          have y2 := A.out.cellOf y2 (by show py ≠ pr; omega)
          have fwf := A.out.frozenOf fw fwf (by show pw ≠ pr; omega)
          have fw := A.out.cellOf fw (by show pw ≠ pr; omega)
          have fr := A.out.cell
          have frf := A.out.frozen
          have HB : Hid _ := A.out.below _ _ HB.out (by show w.heap.size ≤ pr; omega) HB.out.size
          clear A
          obtain ⟨rfl, rfl⟩ := step_same S1.out S2.out
          clear S1 S2
          go_wp2_with (fail)
          obtain ⟨V4, hV4⟩ : ∃ V, V = (V3.setCell ⟨py, 0, none⟩ (.int .i64 (u0))) := ⟨_, rfl⟩
          rw [← hV4]
          have xf0 : V4.frozen? ⟨px, 0, none⟩ = false := by rw [hV4, set1_frozen]; exact xf0
          have xf1 : V4.frozen? ⟨px, 1, none⟩ = false := by rw [hV4, set1_frozen]; exact xf1
          have xf2 : V4.frozen? ⟨px, 2, none⟩ = false := by rw [hV4, set1_frozen]; exact xf2
          have yf0 : V4.frozen? ⟨py, 0, none⟩ = false := by rw [hV4, set1_frozen]; exact yf0
          have yf1 : V4.frozen? ⟨py, 1, none⟩ = false := by rw [hV4, set1_frozen]; exact yf1
          have yf2 : V4.frozen? ⟨py, 2, none⟩ = false := by rw [hV4, set1_frozen]; exact yf2
          have fwf : V4.frozen? ⟨pw, 0, none⟩ = false := by rw [hV4, set1_frozen]; exact fwf
          have frf : V4.frozen? ⟨pr, 0, none⟩ = false := by rw [hV4, set1_frozen]; exact frf
          have z3 := set1_at y0 y1 y2 (.int .i64 (u0))
          rw [← hV4] at z3
          have xa0 := (show V4.cell? ⟨pa, 0, none⟩ = V3.cell? ⟨pa, 0, none⟩ by rw [hV4, set1_far (by show pa ≠ py; omega)]).trans xa0
          have xa1 := (show V4.cell? ⟨pa, 1, none⟩ = V3.cell? ⟨pa, 1, none⟩ by rw [hV4, set1_far (by show pa ≠ py; omega)]).trans xa1
          have xa2 := (show V4.cell? ⟨pa, 2, none⟩ = V3.cell? ⟨pa, 2, none⟩ by rw [hV4, set1_far (by show pa ≠ py; omega)]).trans xa2
          have xb0 := (show V4.cell? ⟨pb, 0, none⟩ = V3.cell? ⟨pb, 0, none⟩ by rw [hV4, set1_far (by show pb ≠ py; omega)]).trans xb0
          have xb1 := (show V4.cell? ⟨pb, 1, none⟩ = V3.cell? ⟨pb, 1, none⟩ by rw [hV4, set1_far (by show pb ≠ py; omega)]).trans xb1
          have xb2 := (show V4.cell? ⟨pb, 2, none⟩ = V3.cell? ⟨pb, 2, none⟩ by rw [hV4, set1_far (by show pb ≠ py; omega)]).trans xb2
          have x0 := (show V4.cell? ⟨px, 0, none⟩ = V3.cell? ⟨px, 0, none⟩ by rw [hV4, set1_far (by show px ≠ py; omega)]).trans x0
          have x1 := (show V4.cell? ⟨px, 1, none⟩ = V3.cell? ⟨px, 1, none⟩ by rw [hV4, set1_far (by show px ≠ py; omega)]).trans x1
          have x2 := (show V4.cell? ⟨px, 2, none⟩ = V3.cell? ⟨px, 2, none⟩ by rw [hV4, set1_far (by show px ≠ py; omega)]).trans x2
          have fw := (show V4.cell? ⟨pw, 0, none⟩ = V3.cell? ⟨pw, 0, none⟩ by rw [hV4, set1_far (by show pw ≠ py; omega)]).trans fw
          have fr := (show V4.cell? ⟨pr, 0, none⟩ = V3.cell? ⟨pr, 0, none⟩ by rw [hV4, set1_far (by show pr ≠ py; omega)]).trans fr
          obtain ⟨y0, y1, y2⟩ := z3
          have HB : Hid (Below w.heap.size w V4) := by show Below _ _ _; rw [hV4]; exact below1 HB.out (by omega)
          clear hV4
          go_meet
          case rel => exact ⟨u0, 0, 0, h, HB, xa0, xa1, xa2, xb0, xb1, xb2, x0, x1, x2, y0, y1, y2, fw, fr⟩
        · go_wp2_with (fail)
          refine (vunit_law pw 0 bad a0_0 a0_1 a0_2 _ fw fwf).mono ?_
          rintro e V1 ⟨v0, v1, v2, g, rfl, S1, A⟩
          have xa0 := A.out.cellOf xa0 (by show pa ≠ pw; omega)
          have xa1 := A.out.cellOf xa1 (by show pa ≠ pw; omega)
          have xa2 := A.out.cellOf xa2 (by show pa ≠ pw; omega)
          have xb0 := A.out.cellOf xb0 (by show pb ≠ pw; omega)
          have xb1 := A.out.cellOf xb1 (by show pb ≠ pw; omega)
          have xb2 := A.out.cellOf xb2 (by show pb ≠ pw; omega)
          have xf0 := A.out.frozenOf x0 xf0 (by show px ≠ pw; omega)
          have x0 := A.out.cellOf x0 (by show px ≠ pw; omega)
          have xf1 := A.out.frozenOf x1 xf1 (by show px ≠ pw; omega)
          have x1 := A.out.cellOf x1 (by show px ≠ pw; omega)
          have xf2 := A.out.frozenOf x2 xf2 (by show px ≠ pw; omega)
          have x2 := A.out.cellOf x2 (by show px ≠ pw; omega)
          have yf0 := A.out.frozenOf y0 yf0 (by show py ≠ pw; omega)
          have y0 := A.out.cellOf y0 (by show py ≠ pw; omega)
          have yf1 := A.out.frozenOf y1 yf1 (by show py ≠ pw; omega)
          have y1 := A.out.cellOf y1 (by show py ≠ pw; omega)
          have yf2 := A.out.frozenOf y2 yf2 (by show py ≠ pw; omega)
          have y2 := A.out.cellOf y2 (by show py ≠ pw; omega)
          have frf := A.out.frozenOf fr frf (by show pr ≠ pw; omega)
          have fr := A.out.cellOf fr (by show pr ≠ pw; omega)
          have fw := A.out.cell
          have fwf := A.out.frozen
          have HB : Hid _ := A.out.below _ _ HB.out (by show w.heap.size ≤ pw; omega) HB.out.size
          clear A
          go_wp2_with (fail)
          obtain ⟨V2, hV2⟩ : ∃ V, V = (((V1.setCell ⟨px, 0, none⟩ (.int .i64 (v0))).setCell ⟨px, 1, none⟩ (.int .i64 (v1))).setCell ⟨px, 2, none⟩ (.int .i64 (v2))) := ⟨_, rfl⟩
          rw [← hV2]
          have xf0 : V2.frozen? ⟨px, 0, none⟩ = false := by rw [hV2, set3_frozen]; exact xf0
          have xf1 : V2.frozen? ⟨px, 1, none⟩ = false := by rw [hV2, set3_frozen]; exact xf1
          have xf2 : V2.frozen? ⟨px, 2, none⟩ = false := by rw [hV2, set3_frozen]; exact xf2
          have yf0 : V2.frozen? ⟨py, 0, none⟩ = false := by rw [hV2, set3_frozen]; exact yf0
          have yf1 : V2.frozen? ⟨py, 1, none⟩ = false := by rw [hV2, set3_frozen]; exact yf1
          have yf2 : V2.frozen? ⟨py, 2, none⟩ = false := by rw [hV2, set3_frozen]; exact yf2
          have fwf : V2.frozen? ⟨pw, 0, none⟩ = false := by rw [hV2, set3_frozen]; exact fwf
          have frf : V2.frozen? ⟨pr, 0, none⟩ = false := by rw [hV2, set3_frozen]; exact frf
          have z3 := set3_at x0 x1 x2 (.int .i64 (v0)) (.int .i64 (v1)) (.int .i64 (v2))
          rw [← hV2] at z3
          have xa0 := (show V2.cell? ⟨pa, 0, none⟩ = V1.cell? ⟨pa, 0, none⟩ by rw [hV2, set3_far (by show pa ≠ px; omega)]).trans xa0
          have xa1 := (show V2.cell? ⟨pa, 1, none⟩ = V1.cell? ⟨pa, 1, none⟩ by rw [hV2, set3_far (by show pa ≠ px; omega)]).trans xa1
          have xa2 := (show V2.cell? ⟨pa, 2, none⟩ = V1.cell? ⟨pa, 2, none⟩ by rw [hV2, set3_far (by show pa ≠ px; omega)]).trans xa2
          have xb0 := (show V2.cell? ⟨pb, 0, none⟩ = V1.cell? ⟨pb, 0, none⟩ by rw [hV2, set3_far (by show pb ≠ px; omega)]).trans xb0
          have xb1 := (show V2.cell? ⟨pb, 1, none⟩ = V1.cell? ⟨pb, 1, none⟩ by rw [hV2, set3_far (by show pb ≠ px; omega)]).trans xb1
          have xb2 := (show V2.cell? ⟨pb, 2, none⟩ = V1.cell? ⟨pb, 2, none⟩ by rw [hV2, set3_far (by show pb ≠ px; omega)]).trans xb2
          have y0 := (show V2.cell? ⟨py, 0, none⟩ = V1.cell? ⟨py, 0, none⟩ by rw [hV2, set3_far (by show py ≠ px; omega)]).trans y0
          have y1 := (show V2.cell? ⟨py, 1, none⟩ = V1.cell? ⟨py, 1, none⟩ by rw [hV2, set3_far (by show py ≠ px; omega)]).trans y1
          have y2 := (show V2.cell? ⟨py, 2, none⟩ = V1.cell? ⟨py, 2, none⟩ by rw [hV2, set3_far (by show py ≠ px; omega)]).trans y2
          have fw := (show V2.cell? ⟨pw, 0, none⟩ = V1.cell? ⟨pw, 0, none⟩ by rw [hV2, set3_far (by show pw ≠ px; omega)]).trans fw
          have fr := (show V2.cell? ⟨pr, 0, none⟩ = V1.cell? ⟨pr, 0, none⟩ by rw [hV2, set3_far (by show pr ≠ px; omega)]).trans fr
          obtain ⟨x0, x1, x2⟩ := z3
          have HB : Hid (Below w.heap.size w V2) := by show Below _ _ _; rw [hV2]; exact below3 HB.out (by omega)
          clear hV2
          refine (rvunit_law pr 0 bad a0_0 a0_1 a0_2 _ fr frf).mono ?_
          rintro e V3 ⟨u0, u1, u2, h, rfl, S2, A⟩
          have xa0 := A.out.cellOf xa0 (by show pa ≠ pr; omega)
          have xa1 := A.out.cellOf xa1 (by show pa ≠ pr; omega)
          have xa2 := A.out.cellOf xa2 (by show pa ≠ pr; omega)
          have xb0 := A.out.cellOf xb0 (by show pb ≠ pr; omega)
          have xb1 := A.out.cellOf xb1 (by show pb ≠ pr; omega)
          have xb2 := A.out.cellOf xb2 (by show pb ≠ pr; omega)
          have xf0 := A.out.frozenOf x0 xf0 (by show px ≠ pr; omega)
          have x0 := A.out.cellOf x0 (by show px ≠ pr; omega)
          have xf1 := A.out.frozenOf x1 xf1 (by show px ≠ pr; omega)
          have x1 := A.out.cellOf x1 (by show px ≠ pr; omega)
          have xf2 := A.out.frozenOf x2 xf2 (by show px ≠ pr; omega)
          have x2 := A.out.cellOf x2 (by show px ≠ pr; omega)
          have yf0 := A.out.frozenOf y0 yf0 (by show py ≠ pr; omega)
          have y0 := A.out.cellOf y0 (by show py ≠ pr; omega)
          have yf1 := A.out.frozenOf y1 yf1 (by show py ≠ pr; omega)
          have y1 := A.out.cellOf y1 (by show py ≠ pr; omega)
          have yf2 := A.out.frozenOf y2 yf2 (by show py ≠ pr; omega)
          have y2 := A.out.cellOf y2 (by show py ≠ pr; omega)
          have fwf := A.out.frozenOf fw fwf (by show pw ≠ pr; omega)
          have fw := A.out.cellOf fw (by show pw ≠ pr; omega)
          have fr := A.out.cell
          have frf := A.out.frozen
          have HB : Hid _ := A.out.below _ _ HB.out (by show w.heap.size ≤ pr; omega) HB.out.size
          clear A
          obtain ⟨rfl, rfl, rfl, rfl⟩ := step3_same S1.out S2.out
          clear S1 S2
          go_wp2_with (fail)
          obtain ⟨V4, hV4⟩ : ∃ V, V = (((V3.setCell ⟨py, 0, none⟩ (.int .i64 (u0))).setCell ⟨py, 1, none⟩ (.int .i64 (u1))).setCell ⟨py, 2, none⟩ (.int .i64 (u2))) := ⟨_, rfl⟩
          rw [← hV4]
          have xf0 : V4.frozen? ⟨px, 0, none⟩ = false := by rw [hV4, set3_frozen]; exact xf0
          have xf1 : V4.frozen? ⟨px, 1, none⟩ = false := by rw [hV4, set3_frozen]; exact xf1
          have xf2 : V4.frozen? ⟨px, 2, none⟩ = false := by rw [hV4, set3_frozen]; exact xf2
          have yf0 : V4.frozen? ⟨py, 0, none⟩ = false := by rw [hV4, set3_frozen]; exact yf0
          have yf1 : V4.frozen? ⟨py, 1, none⟩ = false := by rw [hV4, set3_frozen]; exact yf1
          have yf2 : V4.frozen? ⟨py, 2, none⟩ = false := by rw [hV4, set3_frozen]; exact yf2
          have fwf : V4.frozen? ⟨pw, 0, none⟩ = false := by rw [hV4, set3_frozen]; exact fwf
          have frf : V4.frozen? ⟨pr, 0, none⟩ = false := by rw [hV4, set3_frozen]; exact frf
          have z3 := set3_at y0 y1 y2 (.int .i64 (u0)) (.int .i64 (u1)) (.int .i64 (u2))
          rw [← hV4] at z3
          have xa0 := (show V4.cell? ⟨pa, 0, none⟩ = V3.cell? ⟨pa, 0, none⟩ by rw [hV4, set3_far (by show pa ≠ py; omega)]).trans xa0
          have xa1 := (show V4.cell? ⟨pa, 1, none⟩ = V3.cell? ⟨pa, 1, none⟩ by rw [hV4, set3_far (by show pa ≠ py; omega)]).trans xa1
          have xa2 := (show V4.cell? ⟨pa, 2, none⟩ = V3.cell? ⟨pa, 2, none⟩ by rw [hV4, set3_far (by show pa ≠ py; omega)]).trans xa2
          have xb0 := (show V4.cell? ⟨pb, 0, none⟩ = V3.cell? ⟨pb, 0, none⟩ by rw [hV4, set3_far (by show pb ≠ py; omega)]).trans xb0
          have xb1 := (show V4.cell? ⟨pb, 1, none⟩ = V3.cell? ⟨pb, 1, none⟩ by rw [hV4, set3_far (by show pb ≠ py; omega)]).trans xb1
          have xb2 := (show V4.cell? ⟨pb, 2, none⟩ = V3.cell? ⟨pb, 2, none⟩ by rw [hV4, set3_far (by show pb ≠ py; omega)]).trans xb2
          have x0 := (show V4.cell? ⟨px, 0, none⟩ = V3.cell? ⟨px, 0, none⟩ by rw [hV4, set3_far (by show px ≠ py; omega)]).trans x0
          have x1 := (show V4.cell? ⟨px, 1, none⟩ = V3.cell? ⟨px, 1, none⟩ by rw [hV4, set3_far (by show px ≠ py; omega)]).trans x1
          have x2 := (show V4.cell? ⟨px, 2, none⟩ = V3.cell? ⟨px, 2, none⟩ by rw [hV4, set3_far (by show px ≠ py; omega)]).trans x2
          have fw := (show V4.cell? ⟨pw, 0, none⟩ = V3.cell? ⟨pw, 0, none⟩ by rw [hV4, set3_far (by show pw ≠ py; omega)]).trans fw
          have fr := (show V4.cell? ⟨pr, 0, none⟩ = V3.cell? ⟨pr, 0, none⟩ by rw [hV4, set3_far (by show pr ≠ py; omega)]).trans fr
          obtain ⟨y0, y1, y2⟩ := z3
          have HB : Hid (Below w.heap.size w V4) := by show Below _ _ _; rw [hV4]; exact below3 HB.out (by omega)
          clear hV4
          go_meet
          case rel => exact ⟨u0, u1, u2, h, HB, xa0, xa1, xa2, xb0, xb1, xb2, x0, x1, x2, y0, y1, y2, fw, fr⟩
      case rest =>
        clear HB xa0 xa1 xa2 xb0 xb1 xb2 x0 x1 x2 y0 y1 y2 fw fr xf0 xf1 xf2 yf0 yf1 yf2 fwf frf
        obtain ⟨v0, v1, v2, g, HB, xa0, xa1, xa2, xb0, xb1, xb2, x0, x1, x2, y0, y1, y2, fw, fr⟩ := hcut
        go_wp2_with (fail)
        go_quiet (fail)
        obtain ⟨V9, hV9⟩ : ∃ V, V = wc.drewN nq := ⟨_, rfl⟩
        rw [← hV9]
        have xa0 := (show V9.cell? ⟨pa, 0, none⟩ = wc.cell? ⟨pa, 0, none⟩ by rw [hV9]; rfl).trans xa0
        have xa1 := (show V9.cell? ⟨pa, 1, none⟩ = wc.cell? ⟨pa, 1, none⟩ by rw [hV9]; rfl).trans xa1
        have xa2 := (show V9.cell? ⟨pa, 2, none⟩ = wc.cell? ⟨pa, 2, none⟩ by rw [hV9]; rfl).trans xa2
        have xb0 := (show V9.cell? ⟨pb, 0, none⟩ = wc.cell? ⟨pb, 0, none⟩ by rw [hV9]; rfl).trans xb0
        have xb1 := (show V9.cell? ⟨pb, 1, none⟩ = wc.cell? ⟨pb, 1, none⟩ by rw [hV9]; rfl).trans xb1
        have xb2 := (show V9.cell? ⟨pb, 2, none⟩ = wc.cell? ⟨pb, 2, none⟩ by rw [hV9]; rfl).trans xb2
        have HB9 : Hid (Below w.heap.size w V9) := by show Below _ _ _; rw [hV9]; exact HB.out.trans ⟨rfl, rfl, rfl, Nat.le_refl _, fun _ _ => rfl⟩
        have qv : pb < V9.heap.size := World.block_lt_of_cell? _ _ xb0
        clear hV9 HB
        go_wp2_with (fail)
        go_roundg ((7 - (z + 1)).toNat)
        case measure => have := HGK.out; omega
        case rel => exact ⟨z + 1, rfl, by omega, by omega, rfl, qv, HB9, xa0, xa1, xa2, xb0, xb1, xb2⟩
    · go_wp2_with (fail)
      go_ret
      exact ⟨rfl, HB.out⟩

/-! ### The row's step, after the guide's template -/
set_option maxRecDepth 100000 in
theorem lifted (os : Os) (started : os.Started) (H : Type) (enc : TypeId × Value → H) :
    ReturnsInHanded {} Try.checked os 3 .any (Rows.vecPartsSpec.pre6 enc Try.prog Try.f3 Rows.vecPartsRow.domain false) (Rows.vecPartsSpec.post enc Try.prog Try.f3 false true false false) := by
  refine returnsInHanded_of_change (C := Try.checked) own started (by kernel_rfl) Try.func3
    (ChangeSpec.witness6 (enc := enc) (C := Try.checked) false ⟨#[], #[.agg #[.int .i64 0, .int .i64 0, .int .i64 0], .agg #[.int .i64 0, .int .i64 0, .int .i64 0], .int .i64 0, .bool false], []⟩ 8 (by kernel_rfl) (by kernel_rfl) (by kernel_rfl) (by kernel_rfl)) ?_
  intro W base args ds gs before hval0 hW hcnd _
  have hval : ∀ (j : Nat) t v, Try.f3.params[j]? = some t → args[j]? = some v → Value.okWide Try.prog W .any base t v := hval0
  have hW' := hW
  obtain ⟨p, q, hA0, hV, rfl, hfz, hnd⟩ := hW
  have hA : DataW.TrodAll enc Try.prog W 0 (fun _ => true) true Try.f3.params.toList args.toList ds p := hA0
  rw [Try.params3] at hA hval
  obtain ⟨v0, vs0, d0, ds0, p0, q0, hargs, rfl, rfl, h0, r0⟩ := trodAll_cons hA
  obtain ⟨v1, vs1, d1, ds1, p1, q1, rfl, rfl, rfl, h1, r1⟩ := trodAll_cons r0
  obtain ⟨v2, vs2, d2, ds2, p2, q2, rfl, rfl, rfl, h2, r2⟩ := trodAll_cons r1
  obtain ⟨v3, vs3, d3, ds3, p3, q3, rfl, rfl, rfl, h3, r3⟩ := trodAll_cons r2
  obtain ⟨rfl, rfl, rfl⟩ := trodAll_nil r3
  obtain rfl : args = #[v0, v1, v2, v3] := by cases args; simp_all
  obtain ⟨rfl, rfl⟩ := trodVars_none hV
  obtain ⟨a0_0, a0_1, a0_2, rfl, rfl, rfl, w0_0, w0_1, w0_2⟩ := open_vec (hval 0 23 v0 rfl rfl) h0
  obtain ⟨a1_0, a1_1, a1_2, rfl, rfl, rfl, w1_0, w1_1, w1_2⟩ := open_vec (hval 1 23 v1 rfl rfl) h1
  obtain ⟨a2_0, rfl, rfl, rfl, w2_0⟩ := open_int Try.underlying3 (hval 2 3 v2 rfl rfl) h2
  obtain ⟨bad3, rfl, rfl, rfl⟩ := open_bool Try.underlying4 (hval 3 4 v3 rfl rfl) h3
  clear hA0 hval0
  simp only [List.append_nil] at hW'
  refine (walk a0_0 a0_1 a0_2 a1_0 a1_1 a1_2 a2_0 bad3 w0_0 w0_1 w0_2 w1_0 w1_1 w1_2 w2_0 W).mono fun e W' ⟨he, bel⟩ => ?_
  subst he
  exact ⟨_, rfl, _, _, _, [], [], [], hW', trodAll_mk1 (shut_bool Try.underlying4 _), (trodAll_cons_mk (shut_vec w0_0 w0_1 w0_2) (trodAll_cons_mk (shut_vec w1_0 w1_1 w1_2) (trodAll_cons_mk (shut_int Try.underlying3 w2_0) (trodAll_cons_mk (shut_bool Try.underlying4 _) trodAll_mk0)))), rfl, bel.frame _, fun h => by cases h⟩

theorem over : Rows.vecPartsRow.holds Try.pinned (OpenSpec.ofChange Rows.vecPartsSpec) :=
  OpenClaim.holds_of_wide 3 Try.f3 rfl rfl rfl rfl rfl rfl rfl ⟨rfl, rfl, rfl, rfl, rfl⟩ rfl rfl rfl rfl rfl (by kernel_rfl) Try.func3 (by kernel_rfl)
    (of_decide_eq_true (by kernel_rfl)) (by unfold Func.isWrapper; first | (rw [if_pos (by decide +kernel)]; kernel_rfl) | (rw [if_neg (by decide +kernel)]; exact ⟨rfl, rfl⟩))
    (fun os started H enc _ => lifted os started H enc)

end vecParts

theorem vecParts_holds : Rows.VecPartsSaid := vecParts.over
#print axioms vecParts_holds
end Go.Proofs.Ytioailboehpcaaa
