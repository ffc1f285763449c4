/- VecTurns: for all turns, matrices and vectors the law answers true: products of turns, whole turns, turned vectors, matrices and turns turned on are the document's own answer, with the flag. No conditions. -/
import Derived.Test.YtioailboehpcaaaVSpin
import Derived.Test.YtioailboehpcaaaRTurnD
import Derived.Test.YtioailboehpcaaaRows3
import Derived.Test.YtioailboehpcaaaAwake2
import Derived.Test.YtioailboehpcaaaOpenM
import Derived.Test.YtioailboehpcaaaRows
import Derived.ProofKit
import Derived.OpenShut
import Derived.Deep.CutBlock
import Derived.Deep.QuietTactic
import Derived.BigQuiet
import Derived.ChangeKeysEq
namespace Go.Proofs.Ytioailboehpcaaa
namespace vecTurns
open Go.ChangeShapes Go.WideShapes Go.ChangeAt Go.RowKit Go.Deep Go.Joins Fx
set_option linter.unusedVariables false

theorem own : ownKnob Try.prog.godebug = none := by kernel_rfl
set_option maxRecDepth 100000 in
/-- A matrix is like itself. -/
theorem mat_equal (w : World) (m0 m1 m2 m3 m4 m5 m6 m7 m8 : Int) : (Op.equalIn 10000 44 (.agg #[.int .i64 m0, .int .i64 m1, .int .i64 m2, .int .i64 m3, .int .i64 m4, .int .i64 m5, .int .i64 m6, .int .i64 m7, .int .i64 m8]) (.agg #[.int .i64 m0, .int .i64 m1, .int .i64 m2, .int .i64 m3, .int .i64 m4, .int .i64 m5, .int .i64 m6, .int .i64 m7, .int .i64 m8])).run Try.prog w = .ok true w := by
  show (Op.equalIn (9999 + 1) 44 _ _).run Try.prog w = _
  have hc : Try.prog.cellsOf 23 = 3 := by kernel_rfl
  obtain ⟨i, hi⟩ := Option.isSome_iff_exists.1 (show (Try.prog.info? 23).isSome = true by kernel_rfl)
  rw [run_equalIn_array w 9999 _ _ (by exact Try.underlying44) hi, hc]
  simp [Op.eqItems, List.range, List.range.loop, go_sem]
attribute [local go_sem] mat_equal
theorem set4_at {V : World} {p : Nat} {o0 o1 o2 o3 : Value} (h0 : V.cell? ⟨p, 0, none⟩ = some o0) (h1 : V.cell? ⟨p, 1, none⟩ = some o1) (h2 : V.cell? ⟨p, 2, none⟩ = some o2) (h3 : V.cell? ⟨p, 3, none⟩ = some o3) (u0 u1 u2 u3 : Value) :
    ((((V.setCell ⟨p, 0, none⟩ u0).setCell ⟨p, 1, none⟩ u1).setCell ⟨p, 2, none⟩ u2).setCell ⟨p, 3, none⟩ u3).cell? ⟨p, 0, none⟩ = some u0 ∧ ((((V.setCell ⟨p, 0, none⟩ u0).setCell ⟨p, 1, none⟩ u1).setCell ⟨p, 2, none⟩ u2).setCell ⟨p, 3, none⟩ u3).cell? ⟨p, 1, none⟩ = some u1 ∧ ((((V.setCell ⟨p, 0, none⟩ u0).setCell ⟨p, 1, none⟩ u1).setCell ⟨p, 2, none⟩ u2).setCell ⟨p, 3, none⟩ u3).cell? ⟨p, 2, none⟩ = some u2 ∧ ((((V.setCell ⟨p, 0, none⟩ u0).setCell ⟨p, 1, none⟩ u1).setCell ⟨p, 2, none⟩ u2).setCell ⟨p, 3, none⟩ u3).cell? ⟨p, 3, none⟩ = some u3 :=
  ⟨by simp [go_sem, h0], by simp [go_sem, h1], by simp [go_sem, h2], by simp [go_sem, h3]⟩
theorem below4 {n : Nat} {w V : World} {p : Nat} {u0 u1 u2 u3 : Value} (h : Below n w V) (hp : n ≤ p) : Below n w ((((V.setCell ⟨p, 0, none⟩ u0).setCell ⟨p, 1, none⟩ u1).setCell ⟨p, 2, none⟩ u2).setCell ⟨p, 3, none⟩ u3) := (((h.setCell (p := ⟨p, 0, none⟩) hp u0).setCell (p := ⟨p, 1, none⟩) hp u1).setCell (p := ⟨p, 2, none⟩) hp u2).setCell (p := ⟨p, 3, none⟩) hp u3
theorem below_step' {n : Nat} {a b c : World} (h : Below n a b) (k : Below b.heap.size b c) (hn : n ≤ b.heap.size := by exact (Below.size ‹_›)) : Below n a c := h.trans (k.mono hn)
theorem step3_same {f : Bool} {o0 o1 o2 : Option Int} {x0 x1 x2 y0 y1 y2 : Int} {g h : Bool} (a : Step3 f o0 o1 o2 x0 x1 x2 g) (b : Step3 f o0 o1 o2 y0 y1 y2 h) : y0 = x0 ∧ y1 = x1 ∧ y2 = x2 ∧ h = g := by
  obtain ⟨rfl, rfl, rfl, rfl⟩ := a
  exact b
theorem same5 {x0 x1 x2 x3 y0 y1 y2 y3 z0 z1 z2 z3 : Int} {g h k : Bool} (a : x0 = z0 ∧ x1 = z1 ∧ x2 = z2 ∧ x3 = z3 ∧ g = k) (b : y0 = z0 ∧ y1 = z1 ∧ y2 = z2 ∧ y3 = z3 ∧ h = k) : y0 = x0 ∧ y1 = x1 ∧ y2 = x2 ∧ y3 = x3 ∧ h = g := by
  obtain ⟨rfl, rfl, rfl, rfl, rfl⟩ := a
  exact b

set_option maxRecDepth 100000 in
set_option maxHeartbeats 16000000 in
theorem walk (a0_0 a0_1 a0_2 a0_3 a1_0 a1_1 a1_2 a1_3 a2_0 a2_1 a2_2 a2_3 a2_4 a2_5 a2_6 a2_7 a2_8 a3_0 a3_1 a3_2 : Int) (w0_0 : (Lit.int .i64 a0_0).wf = true) (w0_1 : (Lit.int .i64 a0_1).wf = true) (w0_2 : (Lit.int .i64 a0_2).wf = true) (w0_3 : (Lit.int .i64 a0_3).wf = true) (w1_0 : (Lit.int .i64 a1_0).wf = true) (w1_1 : (Lit.int .i64 a1_1).wf = true) (w1_2 : (Lit.int .i64 a1_2).wf = true) (w1_3 : (Lit.int .i64 a1_3).wf = true) (w2_0 : (Lit.int .i64 a2_0).wf = true) (w2_1 : (Lit.int .i64 a2_1).wf = true) (w2_2 : (Lit.int .i64 a2_2).wf = true) (w2_3 : (Lit.int .i64 a2_3).wf = true) (w2_4 : (Lit.int .i64 a2_4).wf = true) (w2_5 : (Lit.int .i64 a2_5).wf = true) (w2_6 : (Lit.int .i64 a2_6).wf = true) (w2_7 : (Lit.int .i64 a2_7).wf = true) (w2_8 : (Lit.int .i64 a2_8).wf = true) (w3_0 : (Lit.int .i64 a3_0).wf = true) (w3_1 : (Lit.int .i64 a3_1).wf = true) (w3_2 : (Lit.int .i64 a3_2).wf = true) (w : World) :
    Calls Try.prog 4 #[.agg #[.int .i64 a0_0, .int .i64 a0_1, .int .i64 a0_2, .int .i64 a0_3], .agg #[.int .i64 a1_0, .int .i64 a1_1, .int .i64 a1_2, .int .i64 a1_3], .agg #[.int .i64 a2_0, .int .i64 a2_1, .int .i64 a2_2, .int .i64 a2_3, .int .i64 a2_4, .int .i64 a2_5, .int .i64 a2_6, .int .i64 a2_7, .int .i64 a2_8], .agg #[.int .i64 a3_0, .int .i64 a3_1, .int .i64 a3_2]] w fun e w' => e = .returned (.bool true) ∧ Below w.heap.size w w' := by
  have AW : Hid _ := fun W => awake2_any W
  clear w0_0 w0_1 w0_2 w0_3 w1_0 w1_1 w1_2 w1_3 w2_0 w2_1 w2_2 w2_3 w2_4 w2_5 w2_6 w2_7 w2_8 w3_0 w3_1 w3_2
  go_enter Try.func4, Try.ntmps4
  go_wp2_with (fail)
  refine Calls.mono (AW.out _) ?_
  rintro e V ⟨rfl, hb0⟩
  clear AW
  have xp0 : V.cell? ⟨w.heap.size, 0, none⟩ = some (.int .i64 (a0_0)) := cell_after hb0 (by simp [go_sem])
  have xp1 : V.cell? ⟨w.heap.size, 1, none⟩ = some (.int .i64 (a0_1)) := cell_after hb0 (by simp [go_sem])
  have xp2 : V.cell? ⟨w.heap.size, 2, none⟩ = some (.int .i64 (a0_2)) := cell_after hb0 (by simp [go_sem])
  have xp3 : V.cell? ⟨w.heap.size, 3, none⟩ = some (.int .i64 (a0_3)) := cell_after hb0 (by simp [go_sem])
  have xq0 : V.cell? ⟨w.heap.size + 1, 0, none⟩ = some (.int .i64 (a1_0)) := cell_after hb0 (by simp [go_sem])
  have xq1 : V.cell? ⟨w.heap.size + 1, 1, none⟩ = some (.int .i64 (a1_1)) := cell_after hb0 (by simp [go_sem])
  have xq2 : V.cell? ⟨w.heap.size + 1, 2, none⟩ = some (.int .i64 (a1_2)) := cell_after hb0 (by simp [go_sem])
  have xq3 : V.cell? ⟨w.heap.size + 1, 3, none⟩ = some (.int .i64 (a1_3)) := cell_after hb0 (by simp [go_sem])
  have xm0 : V.cell? ⟨w.heap.size + 1 + 1, 0, none⟩ = some (.int .i64 (a2_0)) := cell_after hb0 (by simp [go_sem])
  have xm1 : V.cell? ⟨w.heap.size + 1 + 1, 1, none⟩ = some (.int .i64 (a2_1)) := cell_after hb0 (by simp [go_sem])
  have xm2 : V.cell? ⟨w.heap.size + 1 + 1, 2, none⟩ = some (.int .i64 (a2_2)) := cell_after hb0 (by simp [go_sem])
  have xm3 : V.cell? ⟨w.heap.size + 1 + 1, 3, none⟩ = some (.int .i64 (a2_3)) := cell_after hb0 (by simp [go_sem])
  have xm4 : V.cell? ⟨w.heap.size + 1 + 1, 4, none⟩ = some (.int .i64 (a2_4)) := cell_after hb0 (by simp [go_sem])
  have xm5 : V.cell? ⟨w.heap.size + 1 + 1, 5, none⟩ = some (.int .i64 (a2_5)) := cell_after hb0 (by simp [go_sem])
  have xm6 : V.cell? ⟨w.heap.size + 1 + 1, 6, none⟩ = some (.int .i64 (a2_6)) := cell_after hb0 (by simp [go_sem])
  have xm7 : V.cell? ⟨w.heap.size + 1 + 1, 7, none⟩ = some (.int .i64 (a2_7)) := cell_after hb0 (by simp [go_sem])
  have xm8 : V.cell? ⟨w.heap.size + 1 + 1, 8, none⟩ = some (.int .i64 (a2_8)) := cell_after hb0 (by simp [go_sem])
  have xa0 : V.cell? ⟨w.heap.size + 1 + 1 + 1, 0, none⟩ = some (.int .i64 (a3_0)) := cell_after hb0 (by simp [go_sem])
  have xa1 : V.cell? ⟨w.heap.size + 1 + 1 + 1, 1, none⟩ = some (.int .i64 (a3_1)) := cell_after hb0 (by simp [go_sem])
  have xa2 : V.cell? ⟨w.heap.size + 1 + 1 + 1, 2, none⟩ = some (.int .i64 (a3_2)) := cell_after hb0 (by simp [go_sem])
  have hsV := hb0.size
  simp only [World.size_alloc] at hsV
  have HB : Hid (Below w.heap.size w V) := below_step (((((Below.refl _ w).alloc (Nat.le_refl _) _).alloc (by simp) _).alloc (by simp; omega) _).alloc (by simp; omega) _) hb0
  obtain ⟨pa, hpa⟩ : ∃ p, p = w.heap.size := ⟨_, rfl⟩
  obtain ⟨pb, hpb⟩ : ∃ p, p = w.heap.size + 1 := ⟨_, rfl⟩
  obtain ⟨pm, hpm⟩ : ∃ p, p = w.heap.size + 1 + 1 := ⟨_, rfl⟩
  obtain ⟨pc, hpc⟩ : ∃ p, p = w.heap.size + 1 + 1 + 1 := ⟨_, rfl⟩
  clear hb0
  rw [← hpc, ← hpm, ← hpb, ← hpa]
  rw [← hpc] at xa0 xa1 xa2
  rw [← hpm] at xm0 xm1 xm2 xm3 xm4 xm5 xm6 xm7 xm8
  rw [← hpb] at xq0 xq1 xq2 xq3
  rw [← hpa] at xp0 xp1 xp2 xp3
  have qa : w.heap.size ≤ pa := by omega
  have qb : pa < pb := by omega
  have qm : pb < pm := by omega
  have qc : pm < pc := by omega
  have qv : pc < V.heap.size := by omega
  clear hpa hpb hpm hpc hsV
  go_wp2_with (fail)
  go_loopg [10] 4 (fun gk i wr => ∃ z : Int, i = .int .i64 z ∧ 0 ≤ z ∧ z ≤ 4 ∧ gk = (4 - z).toNat ∧ pc < wr.heap.size ∧ Hid (Below w.heap.size w wr) ∧ wr.cell? ⟨pa, 0, none⟩ = some (.int .i64 (a0_0)) ∧ wr.cell? ⟨pa, 1, none⟩ = some (.int .i64 (a0_1)) ∧ wr.cell? ⟨pa, 2, none⟩ = some (.int .i64 (a0_2)) ∧ wr.cell? ⟨pa, 3, none⟩ = some (.int .i64 (a0_3)) ∧ wr.cell? ⟨pb, 0, none⟩ = some (.int .i64 (a1_0)) ∧ wr.cell? ⟨pb, 1, none⟩ = some (.int .i64 (a1_1)) ∧ wr.cell? ⟨pb, 2, none⟩ = some (.int .i64 (a1_2)) ∧ wr.cell? ⟨pb, 3, none⟩ = some (.int .i64 (a1_3)) ∧ wr.cell? ⟨pm, 0, none⟩ = some (.int .i64 (a2_0)) ∧ wr.cell? ⟨pm, 1, none⟩ = some (.int .i64 (a2_1)) ∧ wr.cell? ⟨pm, 2, none⟩ = some (.int .i64 (a2_2)) ∧ wr.cell? ⟨pm, 3, none⟩ = some (.int .i64 (a2_3)) ∧ wr.cell? ⟨pm, 4, none⟩ = some (.int .i64 (a2_4)) ∧ wr.cell? ⟨pm, 5, none⟩ = some (.int .i64 (a2_5)) ∧ wr.cell? ⟨pm, 6, none⟩ = some (.int .i64 (a2_6)) ∧ wr.cell? ⟨pm, 7, none⟩ = some (.int .i64 (a2_7)) ∧ wr.cell? ⟨pm, 8, none⟩ = some (.int .i64 (a2_8)) ∧ wr.cell? ⟨pc, 0, none⟩ = some (.int .i64 (a3_0)) ∧ wr.cell? ⟨pc, 1, none⟩ = some (.int .i64 (a3_1)) ∧ wr.cell? ⟨pc, 2, none⟩ = some (.int .i64 (a3_2)))
  case atStart => exact ⟨0, rfl, by omega, by omega, rfl, qv, HB, xp0, xp1, xp2, xp3, xq0, xq1, xq2, xq3, xm0, xm1, xm2, xm3, xm4, xm5, xm6, xm7, xm8, xa0, xa1, xa2⟩
  case round =>
    clear HB qv xp0 xp1 xp2 xp3 xq0 xq1 xq2 xq3 xm0 xm1 xm2 xm3 xm4 xm5 xm6 xm7 xm8 xa0 xa1 xa2
    obtain ⟨z, rfl, hz0, hz7, hgk, qv, HB, xp0, xp1, xp2, xp3, xq0, xq1, xq2, xq3, xm0, xm1, xm2, xm3, xm4, xm5, xm6, xm7, xm8, xa0, xa1, xa2⟩ := hrel
    have HGK : Hid _ := hgk
    clear hgk
    by_cases hz : z < 4
    · go_upto_block 2 with fail
      obtain ⟨W0, hW0⟩ : ∃ W, W = ((((wr.alloc (.cells #[.bool false] 27)).alloc (.cells #[.bool false] 29)).alloc (.cells #[.int .i64 0, .int .i64 0, .int .i64 0, .int .i64 0] 42)).alloc (.cells #[.int .i64 0, .int .i64 0, .int .i64 0, .int .i64 0] 42)) := ⟨_, rfl⟩
      obtain ⟨pw, hpw⟩ : ∃ p, p = wr.heap.size := ⟨_, rfl⟩
      obtain ⟨pr, hpr⟩ : ∃ p, p = wr.heap.size + 1 := ⟨_, rfl⟩
      obtain ⟨px, hpx⟩ : ∃ p, p = wr.heap.size + 1 + 1 := ⟨_, rfl⟩
      obtain ⟨py, hpy⟩ : ∃ p, p = wr.heap.size + 1 + 1 + 1 := ⟨_, rfl⟩
      have hbW : Below wr.heap.size wr W0 := by rw [hW0]; exact (((((Below.refl _ wr).alloc (Nat.le_refl _) _).alloc (by first | (simp; done) | (simp; omega)) _).alloc (by first | (simp; done) | (simp; omega)) _).alloc (by first | (simp; done) | (simp; omega)) _)
      have HB : Hid _ := below_step' HB.out hbW
      have xp0 := cell_after hbW xp0
      have xp1 := cell_after hbW xp1
      have xp2 := cell_after hbW xp2
      have xp3 := cell_after hbW xp3
      have xq0 := cell_after hbW xq0
      have xq1 := cell_after hbW xq1
      have xq2 := cell_after hbW xq2
      have xq3 := cell_after hbW xq3
      have xm0 := cell_after hbW xm0
      have xm1 := cell_after hbW xm1
      have xm2 := cell_after hbW xm2
      have xm3 := cell_after hbW xm3
      have xm4 := cell_after hbW xm4
      have xm5 := cell_after hbW xm5
      have xm6 := cell_after hbW xm6
      have xm7 := cell_after hbW xm7
      have xm8 := cell_after hbW xm8
      have xa0 := cell_after hbW xa0
      have xa1 := cell_after hbW xa1
      have xa2 := cell_after hbW xa2
      have x0 : W0.cell? ⟨px, 0, none⟩ = some (.int .i64 0) := by rw [hW0, hpx]; simp [go_sem]
      have xf0 : W0.frozen? ⟨px, 0, none⟩ = false := by rw [hW0, hpx]; simp [go_sem]
      have y0 : W0.cell? ⟨py, 0, none⟩ = some (.int .i64 0) := by rw [hW0, hpy]; simp [go_sem]
      have yf0 : W0.frozen? ⟨py, 0, none⟩ = false := by rw [hW0, hpy]; simp [go_sem]
      have x1 : W0.cell? ⟨px, 1, none⟩ = some (.int .i64 0) := by rw [hW0, hpx]; simp [go_sem]
      have xf1 : W0.frozen? ⟨px, 1, none⟩ = false := by rw [hW0, hpx]; simp [go_sem]
      have y1 : W0.cell? ⟨py, 1, none⟩ = some (.int .i64 0) := by rw [hW0, hpy]; simp [go_sem]
      have yf1 : W0.frozen? ⟨py, 1, none⟩ = false := by rw [hW0, hpy]; simp [go_sem]
      have x2 : W0.cell? ⟨px, 2, none⟩ = some (.int .i64 0) := by rw [hW0, hpx]; simp [go_sem]
      have xf2 : W0.frozen? ⟨px, 2, none⟩ = false := by rw [hW0, hpx]; simp [go_sem]
      have y2 : W0.cell? ⟨py, 2, none⟩ = some (.int .i64 0) := by rw [hW0, hpy]; simp [go_sem]
      have yf2 : W0.frozen? ⟨py, 2, none⟩ = false := by rw [hW0, hpy]; simp [go_sem]
      have x3 : W0.cell? ⟨px, 3, none⟩ = some (.int .i64 0) := by rw [hW0, hpx]; simp [go_sem]
      have xf3 : W0.frozen? ⟨px, 3, none⟩ = false := by rw [hW0, hpx]; simp [go_sem]
      have y3 : W0.cell? ⟨py, 3, none⟩ = some (.int .i64 0) := by rw [hW0, hpy]; simp [go_sem]
      have yf3 : W0.frozen? ⟨py, 3, none⟩ = false := by rw [hW0, hpy]; simp [go_sem]
      have fw : W0.cell? ⟨pw, 0, none⟩ = some (.bool false) := by rw [hW0, hpw]; simp [go_sem]
      have fwf : W0.frozen? ⟨pw, 0, none⟩ = false := by rw [hW0, hpw]; simp [go_sem]
      have fr : W0.cell? ⟨pr, 0, none⟩ = some (.bool false) := by rw [hW0, hpr]; simp [go_sem]
      have frf : W0.frozen? ⟨pr, 0, none⟩ = false := by rw [hW0, hpr]; simp [go_sem]
      have hszW : W0.heap.size = wr.heap.size + 4 := by rw [hW0]; simp
      rw [← hW0, ← hpy, ← hpx, ← hpr, ← hpw]
      have o1 : pc < pw := by omega
      have o2 : pw < pr := by omega
      have o3 : pr < px := by omega
      have o4 : px < py := by omega
      clear hW0 hbW qv hszW hpw hpr hpx hpy
      go_cut [] from 24 to 96 (fun wx => ∃ (v0 v1 v2 v3 : Int) (g : Bool), Hid (Below w.heap.size w wx) ∧ wx.cell? ⟨pa, 0, none⟩ = some (.int .i64 (a0_0)) ∧ wx.cell? ⟨pa, 1, none⟩ = some (.int .i64 (a0_1)) ∧ wx.cell? ⟨pa, 2, none⟩ = some (.int .i64 (a0_2)) ∧ wx.cell? ⟨pa, 3, none⟩ = some (.int .i64 (a0_3)) ∧ wx.cell? ⟨pb, 0, none⟩ = some (.int .i64 (a1_0)) ∧ wx.cell? ⟨pb, 1, none⟩ = some (.int .i64 (a1_1)) ∧ wx.cell? ⟨pb, 2, none⟩ = some (.int .i64 (a1_2)) ∧ wx.cell? ⟨pb, 3, none⟩ = some (.int .i64 (a1_3)) ∧ wx.cell? ⟨pm, 0, none⟩ = some (.int .i64 (a2_0)) ∧ wx.cell? ⟨pm, 1, none⟩ = some (.int .i64 (a2_1)) ∧ wx.cell? ⟨pm, 2, none⟩ = some (.int .i64 (a2_2)) ∧ wx.cell? ⟨pm, 3, none⟩ = some (.int .i64 (a2_3)) ∧ wx.cell? ⟨pm, 4, none⟩ = some (.int .i64 (a2_4)) ∧ wx.cell? ⟨pm, 5, none⟩ = some (.int .i64 (a2_5)) ∧ wx.cell? ⟨pm, 6, none⟩ = some (.int .i64 (a2_6)) ∧ wx.cell? ⟨pm, 7, none⟩ = some (.int .i64 (a2_7)) ∧ wx.cell? ⟨pm, 8, none⟩ = some (.int .i64 (a2_8)) ∧ wx.cell? ⟨pc, 0, none⟩ = some (.int .i64 (a3_0)) ∧ wx.cell? ⟨pc, 1, none⟩ = some (.int .i64 (a3_1)) ∧ wx.cell? ⟨pc, 2, none⟩ = some (.int .i64 (a3_2)) ∧ wx.cell? ⟨px, 0, none⟩ = some (.int .i64 (v0)) ∧ wx.cell? ⟨px, 1, none⟩ = some (.int .i64 (v1)) ∧ wx.cell? ⟨px, 2, none⟩ = some (.int .i64 (v2)) ∧ wx.cell? ⟨px, 3, none⟩ = some (.int .i64 (v3)) ∧ wx.cell? ⟨py, 0, none⟩ = some (.int .i64 (v0)) ∧ wx.cell? ⟨py, 1, none⟩ = some (.int .i64 (v1)) ∧ wx.cell? ⟨py, 2, none⟩ = some (.int .i64 (v2)) ∧ wx.cell? ⟨py, 3, none⟩ = some (.int .i64 (v3)) ∧ wx.cell? ⟨pw, 0, none⟩ = some (.bool g) ∧ wx.cell? ⟨pr, 0, none⟩ = some (.bool g))
      case first =>
        have hz6 : z = 0 ∨ z = 1 ∨ z = 2 ∨ z = 3 := by omega
        clear hz hz0 hz7 HGK
        rcases hz6 with rfl | rfl | rfl | rfl
        · go_wp2_with (fail)
          refine (vtimes_law pw 0 false a0_0 a0_1 a0_2 a0_3 a1_0 a1_1 a1_2 a1_3 _ fw fwf).mono ?_
          rintro e V1 ⟨v0, v1, v2, v3, g, rfl, S1, A⟩
          have xp0 := A.out.cellOf xp0 (by show pa ≠ pw; omega)
          have xp1 := A.out.cellOf xp1 (by show pa ≠ pw; omega)
          have xp2 := A.out.cellOf xp2 (by show pa ≠ pw; omega)
          have xp3 := A.out.cellOf xp3 (by show pa ≠ pw; omega)
          have xq0 := A.out.cellOf xq0 (by show pb ≠ pw; omega)
          have xq1 := A.out.cellOf xq1 (by show pb ≠ pw; omega)
          have xq2 := A.out.cellOf xq2 (by show pb ≠ pw; omega)
          have xq3 := A.out.cellOf xq3 (by show pb ≠ pw; omega)
          have xm0 := A.out.cellOf xm0 (by show pm ≠ pw; omega)
          have xm1 := A.out.cellOf xm1 (by show pm ≠ pw; omega)
          have xm2 := A.out.cellOf xm2 (by show pm ≠ pw; omega)
          have xm3 := A.out.cellOf xm3 (by show pm ≠ pw; omega)
          have xm4 := A.out.cellOf xm4 (by show pm ≠ pw; omega)
          have xm5 := A.out.cellOf xm5 (by show pm ≠ pw; omega)
          have xm6 := A.out.cellOf xm6 (by show pm ≠ pw; omega)
          have xm7 := A.out.cellOf xm7 (by show pm ≠ pw; omega)
          have xm8 := A.out.cellOf xm8 (by show pm ≠ pw; omega)
          have xa0 := A.out.cellOf xa0 (by show pc ≠ pw; omega)
          have xa1 := A.out.cellOf xa1 (by show pc ≠ pw; omega)
          have xa2 := A.out.cellOf xa2 (by show pc ≠ pw; omega)
          have xf0 := A.out.frozenOf x0 xf0 (by show px ≠ pw; omega)
          have x0 := A.out.cellOf x0 (by show px ≠ pw; omega)
          have xf1 := A.out.frozenOf x1 xf1 (by show px ≠ pw; omega)
          have x1 := A.out.cellOf x1 (by show px ≠ pw; omega)
          have xf2 := A.out.frozenOf x2 xf2 (by show px ≠ pw; omega)
          have x2 := A.out.cellOf x2 (by show px ≠ pw; omega)
          have xf3 := A.out.frozenOf x3 xf3 (by show px ≠ pw; omega)
          have x3 := A.out.cellOf x3 (by show px ≠ pw; omega)
          have yf0 := A.out.frozenOf y0 yf0 (by show py ≠ pw; omega)
          have y0 := A.out.cellOf y0 (by show py ≠ pw; omega)
          have yf1 := A.out.frozenOf y1 yf1 (by show py ≠ pw; omega)
          have y1 := A.out.cellOf y1 (by show py ≠ pw; omega)
          have yf2 := A.out.frozenOf y2 yf2 (by show py ≠ pw; omega)
          have y2 := A.out.cellOf y2 (by show py ≠ pw; omega)
          have yf3 := A.out.frozenOf y3 yf3 (by show py ≠ pw; omega)
          have y3 := A.out.cellOf y3 (by show py ≠ pw; omega)
          have frf := A.out.frozenOf fr frf (by show pr ≠ pw; omega)
          have fr := A.out.cellOf fr (by show pr ≠ pw; omega)
          have fw := A.out.cell
          have fwf := A.out.frozen
          have HB : Hid _ := A.out.below _ _ HB.out (by show w.heap.size ≤ pw; omega) HB.out.size
          clear A
          go_wp2_with (fail)
          obtain ⟨V2, hV2⟩ : ∃ V, V = ((((V1.setCell ⟨px, 0, none⟩ (.int .i64 (v0))).setCell ⟨px, 1, none⟩ (.int .i64 (v1))).setCell ⟨px, 2, none⟩ (.int .i64 (v2))).setCell ⟨px, 3, none⟩ (.int .i64 (v3))) := ⟨_, rfl⟩
          rw [← hV2]
          have xf0 : V2.frozen? ⟨px, 0, none⟩ = false := by rw [hV2, set4_frozen]; exact xf0
          have xf1 : V2.frozen? ⟨px, 1, none⟩ = false := by rw [hV2, set4_frozen]; exact xf1
          have xf2 : V2.frozen? ⟨px, 2, none⟩ = false := by rw [hV2, set4_frozen]; exact xf2
          have xf3 : V2.frozen? ⟨px, 3, none⟩ = false := by rw [hV2, set4_frozen]; exact xf3
          have yf0 : V2.frozen? ⟨py, 0, none⟩ = false := by rw [hV2, set4_frozen]; exact yf0
          have yf1 : V2.frozen? ⟨py, 1, none⟩ = false := by rw [hV2, set4_frozen]; exact yf1
          have yf2 : V2.frozen? ⟨py, 2, none⟩ = false := by rw [hV2, set4_frozen]; exact yf2
          have yf3 : V2.frozen? ⟨py, 3, none⟩ = false := by rw [hV2, set4_frozen]; exact yf3
          have fwf : V2.frozen? ⟨pw, 0, none⟩ = false := by rw [hV2, set4_frozen]; exact fwf
          have frf : V2.frozen? ⟨pr, 0, none⟩ = false := by rw [hV2, set4_frozen]; exact frf
          have z3 := set4_at x0 x1 x2 x3 (.int .i64 (v0)) (.int .i64 (v1)) (.int .i64 (v2)) (.int .i64 (v3))
          rw [← hV2] at z3
          have xp0 := (show V2.cell? ⟨pa, 0, none⟩ = V1.cell? ⟨pa, 0, none⟩ by rw [hV2, set4_far (by show pa ≠ px; omega)]).trans xp0
          have xp1 := (show V2.cell? ⟨pa, 1, none⟩ = V1.cell? ⟨pa, 1, none⟩ by rw [hV2, set4_far (by show pa ≠ px; omega)]).trans xp1
          have xp2 := (show V2.cell? ⟨pa, 2, none⟩ = V1.cell? ⟨pa, 2, none⟩ by rw [hV2, set4_far (by show pa ≠ px; omega)]).trans xp2
          have xp3 := (show V2.cell? ⟨pa, 3, none⟩ = V1.cell? ⟨pa, 3, none⟩ by rw [hV2, set4_far (by show pa ≠ px; omega)]).trans xp3
          have xq0 := (show V2.cell? ⟨pb, 0, none⟩ = V1.cell? ⟨pb, 0, none⟩ by rw [hV2, set4_far (by show pb ≠ px; omega)]).trans xq0
          have xq1 := (show V2.cell? ⟨pb, 1, none⟩ = V1.cell? ⟨pb, 1, none⟩ by rw [hV2, set4_far (by show pb ≠ px; omega)]).trans xq1
          have xq2 := (show V2.cell? ⟨pb, 2, none⟩ = V1.cell? ⟨pb, 2, none⟩ by rw [hV2, set4_far (by show pb ≠ px; omega)]).trans xq2
          have xq3 := (show V2.cell? ⟨pb, 3, none⟩ = V1.cell? ⟨pb, 3, none⟩ by rw [hV2, set4_far (by show pb ≠ px; omega)]).trans xq3
          have xm0 := (show V2.cell? ⟨pm, 0, none⟩ = V1.cell? ⟨pm, 0, none⟩ by rw [hV2, set4_far (by show pm ≠ px; omega)]).trans xm0
          have xm1 := (show V2.cell? ⟨pm, 1, none⟩ = V1.cell? ⟨pm, 1, none⟩ by rw [hV2, set4_far (by show pm ≠ px; omega)]).trans xm1
          have xm2 := (show V2.cell? ⟨pm, 2, none⟩ = V1.cell? ⟨pm, 2, none⟩ by rw [hV2, set4_far (by show pm ≠ px; omega)]).trans xm2
          have xm3 := (show V2.cell? ⟨pm, 3, none⟩ = V1.cell? ⟨pm, 3, none⟩ by rw [hV2, set4_far (by show pm ≠ px; omega)]).trans xm3
          have xm4 := (show V2.cell? ⟨pm, 4, none⟩ = V1.cell? ⟨pm, 4, none⟩ by rw [hV2, set4_far (by show pm ≠ px; omega)]).trans xm4
          have xm5 := (show V2.cell? ⟨pm, 5, none⟩ = V1.cell? ⟨pm, 5, none⟩ by rw [hV2, set4_far (by show pm ≠ px; omega)]).trans xm5
          have xm6 := (show V2.cell? ⟨pm, 6, none⟩ = V1.cell? ⟨pm, 6, none⟩ by rw [hV2, set4_far (by show pm ≠ px; omega)]).trans xm6
          have xm7 := (show V2.cell? ⟨pm, 7, none⟩ = V1.cell? ⟨pm, 7, none⟩ by rw [hV2, set4_far (by show pm ≠ px; omega)]).trans xm7
          have xm8 := (show V2.cell? ⟨pm, 8, none⟩ = V1.cell? ⟨pm, 8, none⟩ by rw [hV2, set4_far (by show pm ≠ px; omega)]).trans xm8
          have xa0 := (show V2.cell? ⟨pc, 0, none⟩ = V1.cell? ⟨pc, 0, none⟩ by rw [hV2, set4_far (by show pc ≠ px; omega)]).trans xa0
          have xa1 := (show V2.cell? ⟨pc, 1, none⟩ = V1.cell? ⟨pc, 1, none⟩ by rw [hV2, set4_far (by show pc ≠ px; omega)]).trans xa1
          have xa2 := (show V2.cell? ⟨pc, 2, none⟩ = V1.cell? ⟨pc, 2, none⟩ by rw [hV2, set4_far (by show pc ≠ px; omega)]).trans xa2
          have y0 := (show V2.cell? ⟨py, 0, none⟩ = V1.cell? ⟨py, 0, none⟩ by rw [hV2, set4_far (by show py ≠ px; omega)]).trans y0
          have y1 := (show V2.cell? ⟨py, 1, none⟩ = V1.cell? ⟨py, 1, none⟩ by rw [hV2, set4_far (by show py ≠ px; omega)]).trans y1
          have y2 := (show V2.cell? ⟨py, 2, none⟩ = V1.cell? ⟨py, 2, none⟩ by rw [hV2, set4_far (by show py ≠ px; omega)]).trans y2
          have y3 := (show V2.cell? ⟨py, 3, none⟩ = V1.cell? ⟨py, 3, none⟩ by rw [hV2, set4_far (by show py ≠ px; omega)]).trans y3
          have fw := (show V2.cell? ⟨pw, 0, none⟩ = V1.cell? ⟨pw, 0, none⟩ by rw [hV2, set4_far (by show pw ≠ px; omega)]).trans fw
          have fr := (show V2.cell? ⟨pr, 0, none⟩ = V1.cell? ⟨pr, 0, none⟩ by rw [hV2, set4_far (by show pr ≠ px; omega)]).trans fr
          obtain ⟨x0, x1, x2, x3⟩ := z3
          have HB : Hid (Below w.heap.size w V2) := by show Below _ _ _; rw [hV2]; exact below4 HB.out (by omega)
          clear hV2
          refine (rvtimes_law pr 0 false a0_0 a0_1 a0_2 a0_3 a1_0 a1_1 a1_2 a1_3 _ fr frf).mono ?_
          rintro e V3 ⟨u0, u1, u2, u3, h, rfl, S2, A⟩
          have xp0 := A.out.cellOf xp0 (by show pa ≠ pr; omega)
          have xp1 := A.out.cellOf xp1 (by show pa ≠ pr; omega)
          have xp2 := A.out.cellOf xp2 (by show pa ≠ pr; omega)
          have xp3 := A.out.cellOf xp3 (by show pa ≠ pr; omega)
          have xq0 := A.out.cellOf xq0 (by show pb ≠ pr; omega)
          have xq1 := A.out.cellOf xq1 (by show pb ≠ pr; omega)
          have xq2 := A.out.cellOf xq2 (by show pb ≠ pr; omega)
          have xq3 := A.out.cellOf xq3 (by show pb ≠ pr; omega)
          have xm0 := A.out.cellOf xm0 (by show pm ≠ pr; omega)
          have xm1 := A.out.cellOf xm1 (by show pm ≠ pr; omega)
          have xm2 := A.out.cellOf xm2 (by show pm ≠ pr; omega)
          have xm3 := A.out.cellOf xm3 (by show pm ≠ pr; omega)
          have xm4 := A.out.cellOf xm4 (by show pm ≠ pr; omega)
          have xm5 := A.out.cellOf xm5 (by show pm ≠ pr; omega)
          have xm6 := A.out.cellOf xm6 (by show pm ≠ pr; omega)
          have xm7 := A.out.cellOf xm7 (by show pm ≠ pr; omega)
          have xm8 := A.out.cellOf xm8 (by show pm ≠ pr; omega)
          have xa0 := A.out.cellOf xa0 (by show pc ≠ pr; omega)
          have xa1 := A.out.cellOf xa1 (by show pc ≠ pr; omega)
          have xa2 := A.out.cellOf xa2 (by show pc ≠ pr; omega)
          have xf0 := A.out.frozenOf x0 xf0 (by show px ≠ pr; omega)
          have x0 := A.out.cellOf x0 (by show px ≠ pr; omega)
          have xf1 := A.out.frozenOf x1 xf1 (by show px ≠ pr; omega)
          have x1 := A.out.cellOf x1 (by show px ≠ pr; omega)
          have xf2 := A.out.frozenOf x2 xf2 (by show px ≠ pr; omega)
          have x2 := A.out.cellOf x2 (by show px ≠ pr; omega)
          have xf3 := A.out.frozenOf x3 xf3 (by show px ≠ pr; omega)
          have x3 := A.out.cellOf x3 (by show px ≠ pr; omega)
          have yf0 := A.out.frozenOf y0 yf0 (by show py ≠ pr; omega)
          have y0 := A.out.cellOf y0 (by show py ≠ pr; omega)
          have yf1 := A.out.frozenOf y1 yf1 (by show py ≠ pr; omega)
          have y1 := A.out.cellOf y1 (by show py ≠ pr; omega)
          have yf2 := A.out.frozenOf y2 yf2 (by show py ≠ pr; omega)
          have y2 := A.out.cellOf y2 (by show py ≠ pr; omega)
          have yf3 := A.out.frozenOf y3 yf3 (by show py ≠ pr; omega)
          have y3 := A.out.cellOf y3 (by show py ≠ pr; omega)
          have fwf := A.out.frozenOf fw fwf (by show pw ≠ pr; omega)
          have fw := A.out.cellOf fw (by show pw ≠ pr; omega)
          have fr := A.out.cell
          have frf := A.out.frozen
          have HB : Hid _ := A.out.below _ _ HB.out (by show w.heap.size ≤ pr; omega) HB.out.size
          clear A
          obtain ⟨rfl, rfl, rfl, rfl, rfl⟩ := same5 S1.out S2.out
          clear S1 S2
          go_wp2_with (fail)
          obtain ⟨V4, hV4⟩ : ∃ V, V = ((((V3.setCell ⟨py, 0, none⟩ (.int .i64 (u0))).setCell ⟨py, 1, none⟩ (.int .i64 (u1))).setCell ⟨py, 2, none⟩ (.int .i64 (u2))).setCell ⟨py, 3, none⟩ (.int .i64 (u3))) := ⟨_, rfl⟩
          rw [← hV4]
          have xf0 : V4.frozen? ⟨px, 0, none⟩ = false := by rw [hV4, set4_frozen]; exact xf0
          have xf1 : V4.frozen? ⟨px, 1, none⟩ = false := by rw [hV4, set4_frozen]; exact xf1
          have xf2 : V4.frozen? ⟨px, 2, none⟩ = false := by rw [hV4, set4_frozen]; exact xf2
          have xf3 : V4.frozen? ⟨px, 3, none⟩ = false := by rw [hV4, set4_frozen]; exact xf3
          have yf0 : V4.frozen? ⟨py, 0, none⟩ = false := by rw [hV4, set4_frozen]; exact yf0
          have yf1 : V4.frozen? ⟨py, 1, none⟩ = false := by rw [hV4, set4_frozen]; exact yf1
          have yf2 : V4.frozen? ⟨py, 2, none⟩ = false := by rw [hV4, set4_frozen]; exact yf2
          have yf3 : V4.frozen? ⟨py, 3, none⟩ = false := by rw [hV4, set4_frozen]; exact yf3
          have fwf : V4.frozen? ⟨pw, 0, none⟩ = false := by rw [hV4, set4_frozen]; exact fwf
          have frf : V4.frozen? ⟨pr, 0, none⟩ = false := by rw [hV4, set4_frozen]; exact frf
          have z3 := set4_at y0 y1 y2 y3 (.int .i64 (u0)) (.int .i64 (u1)) (.int .i64 (u2)) (.int .i64 (u3))
          rw [← hV4] at z3
          have xp0 := (show V4.cell? ⟨pa, 0, none⟩ = V3.cell? ⟨pa, 0, none⟩ by rw [hV4, set4_far (by show pa ≠ py; omega)]).trans xp0
          have xp1 := (show V4.cell? ⟨pa, 1, none⟩ = V3.cell? ⟨pa, 1, none⟩ by rw [hV4, set4_far (by show pa ≠ py; omega)]).trans xp1
          have xp2 := (show V4.cell? ⟨pa, 2, none⟩ = V3.cell? ⟨pa, 2, none⟩ by rw [hV4, set4_far (by show pa ≠ py; omega)]).trans xp2
          have xp3 := (show V4.cell? ⟨pa, 3, none⟩ = V3.cell? ⟨pa, 3, none⟩ by rw [hV4, set4_far (by show pa ≠ py; omega)]).trans xp3
          have xq0 := (show V4.cell? ⟨pb, 0, none⟩ = V3.cell? ⟨pb, 0, none⟩ by rw [hV4, set4_far (by show pb ≠ py; omega)]).trans xq0
          have xq1 := (show V4.cell? ⟨pb, 1, none⟩ = V3.cell? ⟨pb, 1, none⟩ by rw [hV4, set4_far (by show pb ≠ py; omega)]).trans xq1
          have xq2 := (show V4.cell? ⟨pb, 2, none⟩ = V3.cell? ⟨pb, 2, none⟩ by rw [hV4, set4_far (by show pb ≠ py; omega)]).trans xq2
          have xq3 := (show V4.cell? ⟨pb, 3, none⟩ = V3.cell? ⟨pb, 3, none⟩ by rw [hV4, set4_far (by show pb ≠ py; omega)]).trans xq3
          have xm0 := (show V4.cell? ⟨pm, 0, none⟩ = V3.cell? ⟨pm, 0, none⟩ by rw [hV4, set4_far (by show pm ≠ py; omega)]).trans xm0
          have xm1 := (show V4.cell? ⟨pm, 1, none⟩ = V3.cell? ⟨pm, 1, none⟩ by rw [hV4, set4_far (by show pm ≠ py; omega)]).trans xm1
          have xm2 := (show V4.cell? ⟨pm, 2, none⟩ = V3.cell? ⟨pm, 2, none⟩ by rw [hV4, set4_far (by show pm ≠ py; omega)]).trans xm2
          have xm3 := (show V4.cell? ⟨pm, 3, none⟩ = V3.cell? ⟨pm, 3, none⟩ by rw [hV4, set4_far (by show pm ≠ py; omega)]).trans xm3
          have xm4 := (show V4.cell? ⟨pm, 4, none⟩ = V3.cell? ⟨pm, 4, none⟩ by rw [hV4, set4_far (by show pm ≠ py; omega)]).trans xm4
          have xm5 := (show V4.cell? ⟨pm, 5, none⟩ = V3.cell? ⟨pm, 5, none⟩ by rw [hV4, set4_far (by show pm ≠ py; omega)]).trans xm5
          have xm6 := (show V4.cell? ⟨pm, 6, none⟩ = V3.cell? ⟨pm, 6, none⟩ by rw [hV4, set4_far (by show pm ≠ py; omega)]).trans xm6
          have xm7 := (show V4.cell? ⟨pm, 7, none⟩ = V3.cell? ⟨pm, 7, none⟩ by rw [hV4, set4_far (by show pm ≠ py; omega)]).trans xm7
          have xm8 := (show V4.cell? ⟨pm, 8, none⟩ = V3.cell? ⟨pm, 8, none⟩ by rw [hV4, set4_far (by show pm ≠ py; omega)]).trans xm8
          have xa0 := (show V4.cell? ⟨pc, 0, none⟩ = V3.cell? ⟨pc, 0, none⟩ by rw [hV4, set4_far (by show pc ≠ py; omega)]).trans xa0
          have xa1 := (show V4.cell? ⟨pc, 1, none⟩ = V3.cell? ⟨pc, 1, none⟩ by rw [hV4, set4_far (by show pc ≠ py; omega)]).trans xa1
          have xa2 := (show V4.cell? ⟨pc, 2, none⟩ = V3.cell? ⟨pc, 2, none⟩ by rw [hV4, set4_far (by show pc ≠ py; omega)]).trans xa2
          have x0 := (show V4.cell? ⟨px, 0, none⟩ = V3.cell? ⟨px, 0, none⟩ by rw [hV4, set4_far (by show px ≠ py; omega)]).trans x0
          have x1 := (show V4.cell? ⟨px, 1, none⟩ = V3.cell? ⟨px, 1, none⟩ by rw [hV4, set4_far (by show px ≠ py; omega)]).trans x1
          have x2 := (show V4.cell? ⟨px, 2, none⟩ = V3.cell? ⟨px, 2, none⟩ by rw [hV4, set4_far (by show px ≠ py; omega)]).trans x2
          have x3 := (show V4.cell? ⟨px, 3, none⟩ = V3.cell? ⟨px, 3, none⟩ by rw [hV4, set4_far (by show px ≠ py; omega)]).trans x3
          have fw := (show V4.cell? ⟨pw, 0, none⟩ = V3.cell? ⟨pw, 0, none⟩ by rw [hV4, set4_far (by show pw ≠ py; omega)]).trans fw
          have fr := (show V4.cell? ⟨pr, 0, none⟩ = V3.cell? ⟨pr, 0, none⟩ by rw [hV4, set4_far (by show pr ≠ py; omega)]).trans fr
          obtain ⟨y0, y1, y2, y3⟩ := z3
          have HB : Hid (Below w.heap.size w V4) := by show Below _ _ _; rw [hV4]; exact below4 HB.out (by omega)
          clear hV4
          go_meet
          case rel => exact ⟨u0, u1, u2, u3, h, HB, xp0, xp1, xp2, xp3, xq0, xq1, xq2, xq3, xm0, xm1, xm2, xm3, xm4, xm5, xm6, xm7, xm8, xa0, xa1, xa2, x0, x1, x2, x3, y0, y1, y2, y3, fw, fr⟩
        · go_wp2_with (fail)
          refine (vwhole_law pw 0 false a0_0 a0_1 a0_2 a0_3 _ fw fwf).mono ?_
          rintro e V1 ⟨v0, v1, v2, v3, g, rfl, S1, A⟩
          have xp0 := A.out.cellOf xp0 (by show pa ≠ pw; omega)
          have xp1 := A.out.cellOf xp1 (by show pa ≠ pw; omega)
          have xp2 := A.out.cellOf xp2 (by show pa ≠ pw; omega)
          have xp3 := A.out.cellOf xp3 (by show pa ≠ pw; omega)
          have xq0 := A.out.cellOf xq0 (by show pb ≠ pw; omega)
          have xq1 := A.out.cellOf xq1 (by show pb ≠ pw; omega)
          have xq2 := A.out.cellOf xq2 (by show pb ≠ pw; omega)
          have xq3 := A.out.cellOf xq3 (by show pb ≠ pw; omega)
          have xm0 := A.out.cellOf xm0 (by show pm ≠ pw; omega)
          have xm1 := A.out.cellOf xm1 (by show pm ≠ pw; omega)
          have xm2 := A.out.cellOf xm2 (by show pm ≠ pw; omega)
          have xm3 := A.out.cellOf xm3 (by show pm ≠ pw; omega)
          have xm4 := A.out.cellOf xm4 (by show pm ≠ pw; omega)
          have xm5 := A.out.cellOf xm5 (by show pm ≠ pw; omega)
          have xm6 := A.out.cellOf xm6 (by show pm ≠ pw; omega)
          have xm7 := A.out.cellOf xm7 (by show pm ≠ pw; omega)
          have xm8 := A.out.cellOf xm8 (by show pm ≠ pw; omega)
          have xa0 := A.out.cellOf xa0 (by show pc ≠ pw; omega)
          have xa1 := A.out.cellOf xa1 (by show pc ≠ pw; omega)
          have xa2 := A.out.cellOf xa2 (by show pc ≠ pw; omega)
          have xf0 := A.out.frozenOf x0 xf0 (by show px ≠ pw; omega)
          have x0 := A.out.cellOf x0 (by show px ≠ pw; omega)
          have xf1 := A.out.frozenOf x1 xf1 (by show px ≠ pw; omega)
          have x1 := A.out.cellOf x1 (by show px ≠ pw; omega)
          have xf2 := A.out.frozenOf x2 xf2 (by show px ≠ pw; omega)
          have x2 := A.out.cellOf x2 (by show px ≠ pw; omega)
          have xf3 := A.out.frozenOf x3 xf3 (by show px ≠ pw; omega)
          have x3 := A.out.cellOf x3 (by show px ≠ pw; omega)
          have yf0 := A.out.frozenOf y0 yf0 (by show py ≠ pw; omega)
          have y0 := A.out.cellOf y0 (by show py ≠ pw; omega)
          have yf1 := A.out.frozenOf y1 yf1 (by show py ≠ pw; omega)
          have y1 := A.out.cellOf y1 (by show py ≠ pw; omega)
          have yf2 := A.out.frozenOf y2 yf2 (by show py ≠ pw; omega)
          have y2 := A.out.cellOf y2 (by show py ≠ pw; omega)
          have yf3 := A.out.frozenOf y3 yf3 (by show py ≠ pw; omega)
          have y3 := A.out.cellOf y3 (by show py ≠ pw; omega)
          have frf := A.out.frozenOf fr frf (by show pr ≠ pw; omega)
          have fr := A.out.cellOf fr (by show pr ≠ pw; omega)
          have fw := A.out.cell
          have fwf := A.out.frozen
          have HB : Hid _ := A.out.below _ _ HB.out (by show w.heap.size ≤ pw; omega) HB.out.size
          clear A
          go_wp2_with (fail)
          obtain ⟨V2, hV2⟩ : ∃ V, V = ((((V1.setCell ⟨px, 0, none⟩ (.int .i64 (v0))).setCell ⟨px, 1, none⟩ (.int .i64 (v1))).setCell ⟨px, 2, none⟩ (.int .i64 (v2))).setCell ⟨px, 3, none⟩ (.int .i64 (v3))) := ⟨_, rfl⟩
          rw [← hV2]
          have xf0 : V2.frozen? ⟨px, 0, none⟩ = false := by rw [hV2, set4_frozen]; exact xf0
          have xf1 : V2.frozen? ⟨px, 1, none⟩ = false := by rw [hV2, set4_frozen]; exact xf1
          have xf2 : V2.frozen? ⟨px, 2, none⟩ = false := by rw [hV2, set4_frozen]; exact xf2
          have xf3 : V2.frozen? ⟨px, 3, none⟩ = false := by rw [hV2, set4_frozen]; exact xf3
          have yf0 : V2.frozen? ⟨py, 0, none⟩ = false := by rw [hV2, set4_frozen]; exact yf0
          have yf1 : V2.frozen? ⟨py, 1, none⟩ = false := by rw [hV2, set4_frozen]; exact yf1
          have yf2 : V2.frozen? ⟨py, 2, none⟩ = false := by rw [hV2, set4_frozen]; exact yf2
          have yf3 : V2.frozen? ⟨py, 3, none⟩ = false := by rw [hV2, set4_frozen]; exact yf3
          have fwf : V2.frozen? ⟨pw, 0, none⟩ = false := by rw [hV2, set4_frozen]; exact fwf
          have frf : V2.frozen? ⟨pr, 0, none⟩ = false := by rw [hV2, set4_frozen]; exact frf
          have z3 := set4_at x0 x1 x2 x3 (.int .i64 (v0)) (.int .i64 (v1)) (.int .i64 (v2)) (.int .i64 (v3))
          rw [← hV2] at z3
          have xp0 := (show V2.cell? ⟨pa, 0, none⟩ = V1.cell? ⟨pa, 0, none⟩ by rw [hV2, set4_far (by show pa ≠ px; omega)]).trans xp0
          have xp1 := (show V2.cell? ⟨pa, 1, none⟩ = V1.cell? ⟨pa, 1, none⟩ by rw [hV2, set4_far (by show pa ≠ px; omega)]).trans xp1
          have xp2 := (show V2.cell? ⟨pa, 2, none⟩ = V1.cell? ⟨pa, 2, none⟩ by rw [hV2, set4_far (by show pa ≠ px; omega)]).trans xp2
          have xp3 := (show V2.cell? ⟨pa, 3, none⟩ = V1.cell? ⟨pa, 3, none⟩ by rw [hV2, set4_far (by show pa ≠ px; omega)]).trans xp3
          have xq0 := (show V2.cell? ⟨pb, 0, none⟩ = V1.cell? ⟨pb, 0, none⟩ by rw [hV2, set4_far (by show pb ≠ px; omega)]).trans xq0
          have xq1 := (show V2.cell? ⟨pb, 1, none⟩ = V1.cell? ⟨pb, 1, none⟩ by rw [hV2, set4_far (by show pb ≠ px; omega)]).trans xq1
          have xq2 := (show V2.cell? ⟨pb, 2, none⟩ = V1.cell? ⟨pb, 2, none⟩ by rw [hV2, set4_far (by show pb ≠ px; omega)]).trans xq2
          have xq3 := (show V2.cell? ⟨pb, 3, none⟩ = V1.cell? ⟨pb, 3, none⟩ by rw [hV2, set4_far (by show pb ≠ px; omega)]).trans xq3
          have xm0 := (show V2.cell? ⟨pm, 0, none⟩ = V1.cell? ⟨pm, 0, none⟩ by rw [hV2, set4_far (by show pm ≠ px; omega)]).trans xm0
          have xm1 := (show V2.cell? ⟨pm, 1, none⟩ = V1.cell? ⟨pm, 1, none⟩ by rw [hV2, set4_far (by show pm ≠ px; omega)]).trans xm1
          have xm2 := (show V2.cell? ⟨pm, 2, none⟩ = V1.cell? ⟨pm, 2, none⟩ by rw [hV2, set4_far (by show pm ≠ px; omega)]).trans xm2
          have xm3 := (show V2.cell? ⟨pm, 3, none⟩ = V1.cell? ⟨pm, 3, none⟩ by rw [hV2, set4_far (by show pm ≠ px; omega)]).trans xm3
          have xm4 := (show V2.cell? ⟨pm, 4, none⟩ = V1.cell? ⟨pm, 4, none⟩ by rw [hV2, set4_far (by show pm ≠ px; omega)]).trans xm4
          have xm5 := (show V2.cell? ⟨pm, 5, none⟩ = V1.cell? ⟨pm, 5, none⟩ by rw [hV2, set4_far (by show pm ≠ px; omega)]).trans xm5
          have xm6 := (show V2.cell? ⟨pm, 6, none⟩ = V1.cell? ⟨pm, 6, none⟩ by rw [hV2, set4_far (by show pm ≠ px; omega)]).trans xm6
          have xm7 := (show V2.cell? ⟨pm, 7, none⟩ = V1.cell? ⟨pm, 7, none⟩ by rw [hV2, set4_far (by show pm ≠ px; omega)]).trans xm7
          have xm8 := (show V2.cell? ⟨pm, 8, none⟩ = V1.cell? ⟨pm, 8, none⟩ by rw [hV2, set4_far (by show pm ≠ px; omega)]).trans xm8
          have xa0 := (show V2.cell? ⟨pc, 0, none⟩ = V1.cell? ⟨pc, 0, none⟩ by rw [hV2, set4_far (by show pc ≠ px; omega)]).trans xa0
          have xa1 := (show V2.cell? ⟨pc, 1, none⟩ = V1.cell? ⟨pc, 1, none⟩ by rw [hV2, set4_far (by show pc ≠ px; omega)]).trans xa1
          have xa2 := (show V2.cell? ⟨pc, 2, none⟩ = V1.cell? ⟨pc, 2, none⟩ by rw [hV2, set4_far (by show pc ≠ px; omega)]).trans xa2
          have y0 := (show V2.cell? ⟨py, 0, none⟩ = V1.cell? ⟨py, 0, none⟩ by rw [hV2, set4_far (by show py ≠ px; omega)]).trans y0
          have y1 := (show V2.cell? ⟨py, 1, none⟩ = V1.cell? ⟨py, 1, none⟩ by rw [hV2, set4_far (by show py ≠ px; omega)]).trans y1
          have y2 := (show V2.cell? ⟨py, 2, none⟩ = V1.cell? ⟨py, 2, none⟩ by rw [hV2, set4_far (by show py ≠ px; omega)]).trans y2
          have y3 := (show V2.cell? ⟨py, 3, none⟩ = V1.cell? ⟨py, 3, none⟩ by rw [hV2, set4_far (by show py ≠ px; omega)]).trans y3
          have fw := (show V2.cell? ⟨pw, 0, none⟩ = V1.cell? ⟨pw, 0, none⟩ by rw [hV2, set4_far (by show pw ≠ px; omega)]).trans fw
          have fr := (show V2.cell? ⟨pr, 0, none⟩ = V1.cell? ⟨pr, 0, none⟩ by rw [hV2, set4_far (by show pr ≠ px; omega)]).trans fr
          obtain ⟨x0, x1, x2, x3⟩ := z3
          have HB : Hid (Below w.heap.size w V2) := by show Below _ _ _; rw [hV2]; exact below4 HB.out (by omega)
          clear hV2
          refine (rvwhole_law pr 0 false a0_0 a0_1 a0_2 a0_3 _ fr frf).mono ?_
          rintro e V3 ⟨u0, u1, u2, u3, h, rfl, S2, A⟩
          have xp0 := A.out.cellOf xp0 (by show pa ≠ pr; omega)
          have xp1 := A.out.cellOf xp1 (by show pa ≠ pr; omega)
          have xp2 := A.out.cellOf xp2 (by show pa ≠ pr; omega)
          have xp3 := A.out.cellOf xp3 (by show pa ≠ pr; omega)
          have xq0 := A.out.cellOf xq0 (by show pb ≠ pr; omega)
          have xq1 := A.out.cellOf xq1 (by show pb ≠ pr; omega)
          have xq2 := A.out.cellOf xq2 (by show pb ≠ pr; omega)
          have xq3 := A.out.cellOf xq3 (by show pb ≠ pr; omega)
          have xm0 := A.out.cellOf xm0 (by show pm ≠ pr; omega)
          have xm1 := A.out.cellOf xm1 (by show pm ≠ pr; omega)
          have xm2 := A.out.cellOf xm2 (by show pm ≠ pr; omega)
          have xm3 := A.out.cellOf xm3 (by show pm ≠ pr; omega)
          have xm4 := A.out.cellOf xm4 (by show pm ≠ pr; omega)
          have xm5 := A.out.cellOf xm5 (by show pm ≠ pr; omega)
          have xm6 := A.out.cellOf xm6 (by show pm ≠ pr; omega)
          have xm7 := A.out.cellOf xm7 (by show pm ≠ pr; omega)
          have xm8 := A.out.cellOf xm8 (by show pm ≠ pr; omega)
          have xa0 := A.out.cellOf xa0 (by show pc ≠ pr; omega)
          have xa1 := A.out.cellOf xa1 (by show pc ≠ pr; omega)
          have xa2 := A.out.cellOf xa2 (by show pc ≠ pr; omega)
          have xf0 := A.out.frozenOf x0 xf0 (by show px ≠ pr; omega)
          have x0 := A.out.cellOf x0 (by show px ≠ pr; omega)
          have xf1 := A.out.frozenOf x1 xf1 (by show px ≠ pr; omega)
          have x1 := A.out.cellOf x1 (by show px ≠ pr; omega)
          have xf2 := A.out.frozenOf x2 xf2 (by show px ≠ pr; omega)
          have x2 := A.out.cellOf x2 (by show px ≠ pr; omega)
          have xf3 := A.out.frozenOf x3 xf3 (by show px ≠ pr; omega)
          have x3 := A.out.cellOf x3 (by show px ≠ pr; omega)
          have yf0 := A.out.frozenOf y0 yf0 (by show py ≠ pr; omega)
          have y0 := A.out.cellOf y0 (by show py ≠ pr; omega)
          have yf1 := A.out.frozenOf y1 yf1 (by show py ≠ pr; omega)
          have y1 := A.out.cellOf y1 (by show py ≠ pr; omega)
          have yf2 := A.out.frozenOf y2 yf2 (by show py ≠ pr; omega)
          have y2 := A.out.cellOf y2 (by show py ≠ pr; omega)
          have yf3 := A.out.frozenOf y3 yf3 (by show py ≠ pr; omega)
          have y3 := A.out.cellOf y3 (by show py ≠ pr; omega)
          have fwf := A.out.frozenOf fw fwf (by show pw ≠ pr; omega)
          have fw := A.out.cellOf fw (by show pw ≠ pr; omega)
          have fr := A.out.cell
          have frf := A.out.frozen
          have HB : Hid _ := A.out.below _ _ HB.out (by show w.heap.size ≤ pr; omega) HB.out.size
          clear A
          obtain ⟨rfl, rfl, rfl, rfl, rfl⟩ := same5 S1.out S2.out
          clear S1 S2
          go_wp2_with (fail)
          obtain ⟨V4, hV4⟩ : ∃ V, V = ((((V3.setCell ⟨py, 0, none⟩ (.int .i64 (u0))).setCell ⟨py, 1, none⟩ (.int .i64 (u1))).setCell ⟨py, 2, none⟩ (.int .i64 (u2))).setCell ⟨py, 3, none⟩ (.int .i64 (u3))) := ⟨_, rfl⟩
          rw [← hV4]
          have xf0 : V4.frozen? ⟨px, 0, none⟩ = false := by rw [hV4, set4_frozen]; exact xf0
          have xf1 : V4.frozen? ⟨px, 1, none⟩ = false := by rw [hV4, set4_frozen]; exact xf1
          have xf2 : V4.frozen? ⟨px, 2, none⟩ = false := by rw [hV4, set4_frozen]; exact xf2
          have xf3 : V4.frozen? ⟨px, 3, none⟩ = false := by rw [hV4, set4_frozen]; exact xf3
          have yf0 : V4.frozen? ⟨py, 0, none⟩ = false := by rw [hV4, set4_frozen]; exact yf0
          have yf1 : V4.frozen? ⟨py, 1, none⟩ = false := by rw [hV4, set4_frozen]; exact yf1
          have yf2 : V4.frozen? ⟨py, 2, none⟩ = false := by rw [hV4, set4_frozen]; exact yf2
          have yf3 : V4.frozen? ⟨py, 3, none⟩ = false := by rw [hV4, set4_frozen]; exact yf3
          have fwf : V4.frozen? ⟨pw, 0, none⟩ = false := by rw [hV4, set4_frozen]; exact fwf
          have frf : V4.frozen? ⟨pr, 0, none⟩ = false := by rw [hV4, set4_frozen]; exact frf
          have z3 := set4_at y0 y1 y2 y3 (.int .i64 (u0)) (.int .i64 (u1)) (.int .i64 (u2)) (.int .i64 (u3))
          rw [← hV4] at z3
          have xp0 := (show V4.cell? ⟨pa, 0, none⟩ = V3.cell? ⟨pa, 0, none⟩ by rw [hV4, set4_far (by show pa ≠ py; omega)]).trans xp0
          have xp1 := (show V4.cell? ⟨pa, 1, none⟩ = V3.cell? ⟨pa, 1, none⟩ by rw [hV4, set4_far (by show pa ≠ py; omega)]).trans xp1
          have xp2 := (show V4.cell? ⟨pa, 2, none⟩ = V3.cell? ⟨pa, 2, none⟩ by rw [hV4, set4_far (by show pa ≠ py; omega)]).trans xp2
          have xp3 := (show V4.cell? ⟨pa, 3, none⟩ = V3.cell? ⟨pa, 3, none⟩ by rw [hV4, set4_far (by show pa ≠ py; omega)]).trans xp3
          have xq0 := (show V4.cell? ⟨pb, 0, none⟩ = V3.cell? ⟨pb, 0, none⟩ by rw [hV4, set4_far (by show pb ≠ py; omega)]).trans xq0
          have xq1 := (show V4.cell? ⟨pb, 1, none⟩ = V3.cell? ⟨pb, 1, none⟩ by rw [hV4, set4_far (by show pb ≠ py; omega)]).trans xq1
          have xq2 := (show V4.cell? ⟨pb, 2, none⟩ = V3.cell? ⟨pb, 2, none⟩ by rw [hV4, set4_far (by show pb ≠ py; omega)]).trans xq2
          have xq3 := (show V4.cell? ⟨pb, 3, none⟩ = V3.cell? ⟨pb, 3, none⟩ by rw [hV4, set4_far (by show pb ≠ py; omega)]).trans xq3
          have xm0 := (show V4.cell? ⟨pm, 0, none⟩ = V3.cell? ⟨pm, 0, none⟩ by rw [hV4, set4_far (by show pm ≠ py; omega)]).trans xm0
          have xm1 := (show V4.cell? ⟨pm, 1, none⟩ = V3.cell? ⟨pm, 1, none⟩ by rw [hV4, set4_far (by show pm ≠ py; omega)]).trans xm1
          have xm2 := (show V4.cell? ⟨pm, 2, none⟩ = V3.cell? ⟨pm, 2, none⟩ by rw [hV4, set4_far (by show pm ≠ py; omega)]).trans xm2
          have xm3 := (show V4.cell? ⟨pm, 3, none⟩ = V3.cell? ⟨pm, 3, none⟩ by rw [hV4, set4_far (by show pm ≠ py; omega)]).trans xm3
          have xm4 := (show V4.cell? ⟨pm, 4, none⟩ = V3.cell? ⟨pm, 4, none⟩ by rw [hV4, set4_far (by show pm ≠ py; omega)]).trans xm4
          have xm5 := (show V4.cell? ⟨pm, 5, none⟩ = V3.cell? ⟨pm, 5, none⟩ by rw [hV4, set4_far (by show pm ≠ py; omega)]).trans xm5
          have xm6 := (show V4.cell? ⟨pm, 6, none⟩ = V3.cell? ⟨pm, 6, none⟩ by rw [hV4, set4_far (by show pm ≠ py; omega)]).trans xm6
          have xm7 := (show V4.cell? ⟨pm, 7, none⟩ = V3.cell? ⟨pm, 7, none⟩ by rw [hV4, set4_far (by show pm ≠ py; omega)]).trans xm7
          have xm8 := (show V4.cell? ⟨pm, 8, none⟩ = V3.cell? ⟨pm, 8, none⟩ by rw [hV4, set4_far (by show pm ≠ py; omega)]).trans xm8
          have xa0 := (show V4.cell? ⟨pc, 0, none⟩ = V3.cell? ⟨pc, 0, none⟩ by rw [hV4, set4_far (by show pc ≠ py; omega)]).trans xa0
          have xa1 := (show V4.cell? ⟨pc, 1, none⟩ = V3.cell? ⟨pc, 1, none⟩ by rw [hV4, set4_far (by show pc ≠ py; omega)]).trans xa1
          have xa2 := (show V4.cell? ⟨pc, 2, none⟩ = V3.cell? ⟨pc, 2, none⟩ by rw [hV4, set4_far (by show pc ≠ py; omega)]).trans xa2
          have x0 := (show V4.cell? ⟨px, 0, none⟩ = V3.cell? ⟨px, 0, none⟩ by rw [hV4, set4_far (by show px ≠ py; omega)]).trans x0
          have x1 := (show V4.cell? ⟨px, 1, none⟩ = V3.cell? ⟨px, 1, none⟩ by rw [hV4, set4_far (by show px ≠ py; omega)]).trans x1
          have x2 := (show V4.cell? ⟨px, 2, none⟩ = V3.cell? ⟨px, 2, none⟩ by rw [hV4, set4_far (by show px ≠ py; omega)]).trans x2
          have x3 := (show V4.cell? ⟨px, 3, none⟩ = V3.cell? ⟨px, 3, none⟩ by rw [hV4, set4_far (by show px ≠ py; omega)]).trans x3
          have fw := (show V4.cell? ⟨pw, 0, none⟩ = V3.cell? ⟨pw, 0, none⟩ by rw [hV4, set4_far (by show pw ≠ py; omega)]).trans fw
          have fr := (show V4.cell? ⟨pr, 0, none⟩ = V3.cell? ⟨pr, 0, none⟩ by rw [hV4, set4_far (by show pr ≠ py; omega)]).trans fr
          obtain ⟨y0, y1, y2, y3⟩ := z3
          have HB : Hid (Below w.heap.size w V4) := by show Below _ _ _; rw [hV4]; exact below4 HB.out (by omega)
          clear hV4
          go_meet
          case rel => exact ⟨u0, u1, u2, u3, h, HB, xp0, xp1, xp2, xp3, xq0, xq1, xq2, xq3, xm0, xm1, xm2, xm3, xm4, xm5, xm6, xm7, xm8, xa0, xa1, xa2, x0, x1, x2, x3, y0, y1, y2, y3, fw, fr⟩
        · go_wp2_with (fail)
          refine (vspin_law pw 0 false a0_0 a0_1 a0_2 a0_3 a3_0 a3_1 a3_2 _ fw fwf).mono ?_
          rintro e V1 ⟨v0, v1, v2, v3, g, rfl, S1, A⟩
          have xp0 := A.out.cellOf xp0 (by show pa ≠ pw; omega)
          have xp1 := A.out.cellOf xp1 (by show pa ≠ pw; omega)
          have xp2 := A.out.cellOf xp2 (by show pa ≠ pw; omega)
          have xp3 := A.out.cellOf xp3 (by show pa ≠ pw; omega)
          have xq0 := A.out.cellOf xq0 (by show pb ≠ pw; omega)
          have xq1 := A.out.cellOf xq1 (by show pb ≠ pw; omega)
          have xq2 := A.out.cellOf xq2 (by show pb ≠ pw; omega)
          have xq3 := A.out.cellOf xq3 (by show pb ≠ pw; omega)
          have xm0 := A.out.cellOf xm0 (by show pm ≠ pw; omega)
          have xm1 := A.out.cellOf xm1 (by show pm ≠ pw; omega)
          have xm2 := A.out.cellOf xm2 (by show pm ≠ pw; omega)
          have xm3 := A.out.cellOf xm3 (by show pm ≠ pw; omega)
          have xm4 := A.out.cellOf xm4 (by show pm ≠ pw; omega)
          have xm5 := A.out.cellOf xm5 (by show pm ≠ pw; omega)
          have xm6 := A.out.cellOf xm6 (by show pm ≠ pw; omega)
          have xm7 := A.out.cellOf xm7 (by show pm ≠ pw; omega)
          have xm8 := A.out.cellOf xm8 (by show pm ≠ pw; omega)
          have xa0 := A.out.cellOf xa0 (by show pc ≠ pw; omega)
          have xa1 := A.out.cellOf xa1 (by show pc ≠ pw; omega)
          have xa2 := A.out.cellOf xa2 (by show pc ≠ pw; omega)
          have xf0 := A.out.frozenOf x0 xf0 (by show px ≠ pw; omega)
          have x0 := A.out.cellOf x0 (by show px ≠ pw; omega)
          have xf1 := A.out.frozenOf x1 xf1 (by show px ≠ pw; omega)
          have x1 := A.out.cellOf x1 (by show px ≠ pw; omega)
          have xf2 := A.out.frozenOf x2 xf2 (by show px ≠ pw; omega)
          have x2 := A.out.cellOf x2 (by show px ≠ pw; omega)
          have xf3 := A.out.frozenOf x3 xf3 (by show px ≠ pw; omega)
          have x3 := A.out.cellOf x3 (by show px ≠ pw; omega)
          have yf0 := A.out.frozenOf y0 yf0 (by show py ≠ pw; omega)
          have y0 := A.out.cellOf y0 (by show py ≠ pw; omega)
          have yf1 := A.out.frozenOf y1 yf1 (by show py ≠ pw; omega)
          have y1 := A.out.cellOf y1 (by show py ≠ pw; omega)
          have yf2 := A.out.frozenOf y2 yf2 (by show py ≠ pw; omega)
          have y2 := A.out.cellOf y2 (by show py ≠ pw; omega)
          have yf3 := A.out.frozenOf y3 yf3 (by show py ≠ pw; omega)
          have y3 := A.out.cellOf y3 (by show py ≠ pw; omega)
          have frf := A.out.frozenOf fr frf (by show pr ≠ pw; omega)
          have fr := A.out.cellOf fr (by show pr ≠ pw; omega)
          have fw := A.out.cell
          have fwf := A.out.frozen
          have HB : Hid _ := A.out.below _ _ HB.out (by show w.heap.size ≤ pw; omega) HB.out.size
          clear A
          go_wp2_with (fail)
          obtain ⟨V2, hV2⟩ : ∃ V, V = ((((V1.setCell ⟨px, 0, none⟩ (.int .i64 (v0))).setCell ⟨px, 1, none⟩ (.int .i64 (v1))).setCell ⟨px, 2, none⟩ (.int .i64 (v2))).setCell ⟨px, 3, none⟩ (.int .i64 (v3))) := ⟨_, rfl⟩
          rw [← hV2]
          have xf0 : V2.frozen? ⟨px, 0, none⟩ = false := by rw [hV2, set4_frozen]; exact xf0
          have xf1 : V2.frozen? ⟨px, 1, none⟩ = false := by rw [hV2, set4_frozen]; exact xf1
          have xf2 : V2.frozen? ⟨px, 2, none⟩ = false := by rw [hV2, set4_frozen]; exact xf2
          have xf3 : V2.frozen? ⟨px, 3, none⟩ = false := by rw [hV2, set4_frozen]; exact xf3
          have yf0 : V2.frozen? ⟨py, 0, none⟩ = false := by rw [hV2, set4_frozen]; exact yf0
          have yf1 : V2.frozen? ⟨py, 1, none⟩ = false := by rw [hV2, set4_frozen]; exact yf1
          have yf2 : V2.frozen? ⟨py, 2, none⟩ = false := by rw [hV2, set4_frozen]; exact yf2
          have yf3 : V2.frozen? ⟨py, 3, none⟩ = false := by rw [hV2, set4_frozen]; exact yf3
          have fwf : V2.frozen? ⟨pw, 0, none⟩ = false := by rw [hV2, set4_frozen]; exact fwf
          have frf : V2.frozen? ⟨pr, 0, none⟩ = false := by rw [hV2, set4_frozen]; exact frf
          have z3 := set4_at x0 x1 x2 x3 (.int .i64 (v0)) (.int .i64 (v1)) (.int .i64 (v2)) (.int .i64 (v3))
          rw [← hV2] at z3
          have xp0 := (show V2.cell? ⟨pa, 0, none⟩ = V1.cell? ⟨pa, 0, none⟩ by rw [hV2, set4_far (by show pa ≠ px; omega)]).trans xp0
          have xp1 := (show V2.cell? ⟨pa, 1, none⟩ = V1.cell? ⟨pa, 1, none⟩ by rw [hV2, set4_far (by show pa ≠ px; omega)]).trans xp1
          have xp2 := (show V2.cell? ⟨pa, 2, none⟩ = V1.cell? ⟨pa, 2, none⟩ by rw [hV2, set4_far (by show pa ≠ px; omega)]).trans xp2
          have xp3 := (show V2.cell? ⟨pa, 3, none⟩ = V1.cell? ⟨pa, 3, none⟩ by rw [hV2, set4_far (by show pa ≠ px; omega)]).trans xp3
          have xq0 := (show V2.cell? ⟨pb, 0, none⟩ = V1.cell? ⟨pb, 0, none⟩ by rw [hV2, set4_far (by show pb ≠ px; omega)]).trans xq0
          have xq1 := (show V2.cell? ⟨pb, 1, none⟩ = V1.cell? ⟨pb, 1, none⟩ by rw [hV2, set4_far (by show pb ≠ px; omega)]).trans xq1
          have xq2 := (show V2.cell? ⟨pb, 2, none⟩ = V1.cell? ⟨pb, 2, none⟩ by rw [hV2, set4_far (by show pb ≠ px; omega)]).trans xq2
          have xq3 := (show V2.cell? ⟨pb, 3, none⟩ = V1.cell? ⟨pb, 3, none⟩ by rw [hV2, set4_far (by show pb ≠ px; omega)]).trans xq3
          have xm0 := (show V2.cell? ⟨pm, 0, none⟩ = V1.cell? ⟨pm, 0, none⟩ by rw [hV2, set4_far (by show pm ≠ px; omega)]).trans xm0
          have xm1 := (show V2.cell? ⟨pm, 1, none⟩ = V1.cell? ⟨pm, 1, none⟩ by rw [hV2, set4_far (by show pm ≠ px; omega)]).trans xm1
          have xm2 := (show V2.cell? ⟨pm, 2, none⟩ = V1.cell? ⟨pm, 2, none⟩ by rw [hV2, set4_far (by show pm ≠ px; omega)]).trans xm2
          have xm3 := (show V2.cell? ⟨pm, 3, none⟩ = V1.cell? ⟨pm, 3, none⟩ by rw [hV2, set4_far (by show pm ≠ px; omega)]).trans xm3
          have xm4 := (show V2.cell? ⟨pm, 4, none⟩ = V1.cell? ⟨pm, 4, none⟩ by rw [hV2, set4_far (by show pm ≠ px; omega)]).trans xm4
          have xm5 := (show V2.cell? ⟨pm, 5, none⟩ = V1.cell? ⟨pm, 5, none⟩ by rw [hV2, set4_far (by show pm ≠ px; omega)]).trans xm5
          have xm6 := (show V2.cell? ⟨pm, 6, none⟩ = V1.cell? ⟨pm, 6, none⟩ by rw [hV2, set4_far (by show pm ≠ px; omega)]).trans xm6
          have xm7 := (show V2.cell? ⟨pm, 7, none⟩ = V1.cell? ⟨pm, 7, none⟩ by rw [hV2, set4_far (by show pm ≠ px; omega)]).trans xm7
          have xm8 := (show V2.cell? ⟨pm, 8, none⟩ = V1.cell? ⟨pm, 8, none⟩ by rw [hV2, set4_far (by show pm ≠ px; omega)]).trans xm8
          have xa0 := (show V2.cell? ⟨pc, 0, none⟩ = V1.cell? ⟨pc, 0, none⟩ by rw [hV2, set4_far (by show pc ≠ px; omega)]).trans xa0
          have xa1 := (show V2.cell? ⟨pc, 1, none⟩ = V1.cell? ⟨pc, 1, none⟩ by rw [hV2, set4_far (by show pc ≠ px; omega)]).trans xa1
          have xa2 := (show V2.cell? ⟨pc, 2, none⟩ = V1.cell? ⟨pc, 2, none⟩ by rw [hV2, set4_far (by show pc ≠ px; omega)]).trans xa2
          have y0 := (show V2.cell? ⟨py, 0, none⟩ = V1.cell? ⟨py, 0, none⟩ by rw [hV2, set4_far (by show py ≠ px; omega)]).trans y0
          have y1 := (show V2.cell? ⟨py, 1, none⟩ = V1.cell? ⟨py, 1, none⟩ by rw [hV2, set4_far (by show py ≠ px; omega)]).trans y1
          have y2 := (show V2.cell? ⟨py, 2, none⟩ = V1.cell? ⟨py, 2, none⟩ by rw [hV2, set4_far (by show py ≠ px; omega)]).trans y2
          have y3 := (show V2.cell? ⟨py, 3, none⟩ = V1.cell? ⟨py, 3, none⟩ by rw [hV2, set4_far (by show py ≠ px; omega)]).trans y3
          have fw := (show V2.cell? ⟨pw, 0, none⟩ = V1.cell? ⟨pw, 0, none⟩ by rw [hV2, set4_far (by show pw ≠ px; omega)]).trans fw
          have fr := (show V2.cell? ⟨pr, 0, none⟩ = V1.cell? ⟨pr, 0, none⟩ by rw [hV2, set4_far (by show pr ≠ px; omega)]).trans fr
          obtain ⟨x0, x1, x2, x3⟩ := z3
          have HB : Hid (Below w.heap.size w V2) := by show Below _ _ _; rw [hV2]; exact below4 HB.out (by omega)
          clear hV2
          refine (rvspin_law pr 0 false a0_0 a0_1 a0_2 a0_3 a3_0 a3_1 a3_2 _ fr frf).mono ?_
          rintro e V3 ⟨u0, u1, u2, u3, h, rfl, S2, A⟩
          have xp0 := A.out.cellOf xp0 (by show pa ≠ pr; omega)
          have xp1 := A.out.cellOf xp1 (by show pa ≠ pr; omega)
          have xp2 := A.out.cellOf xp2 (by show pa ≠ pr; omega)
          have xp3 := A.out.cellOf xp3 (by show pa ≠ pr; omega)
          have xq0 := A.out.cellOf xq0 (by show pb ≠ pr; omega)
          have xq1 := A.out.cellOf xq1 (by show pb ≠ pr; omega)
          have xq2 := A.out.cellOf xq2 (by show pb ≠ pr; omega)
          have xq3 := A.out.cellOf xq3 (by show pb ≠ pr; omega)
          have xm0 := A.out.cellOf xm0 (by show pm ≠ pr; omega)
          have xm1 := A.out.cellOf xm1 (by show pm ≠ pr; omega)
          have xm2 := A.out.cellOf xm2 (by show pm ≠ pr; omega)
          have xm3 := A.out.cellOf xm3 (by show pm ≠ pr; omega)
          have xm4 := A.out.cellOf xm4 (by show pm ≠ pr; omega)
          have xm5 := A.out.cellOf xm5 (by show pm ≠ pr; omega)
          have xm6 := A.out.cellOf xm6 (by show pm ≠ pr; omega)
          have xm7 := A.out.cellOf xm7 (by show pm ≠ pr; omega)
          have xm8 := A.out.cellOf xm8 (by show pm ≠ pr; omega)
          have xa0 := A.out.cellOf xa0 (by show pc ≠ pr; omega)
          have xa1 := A.out.cellOf xa1 (by show pc ≠ pr; omega)
          have xa2 := A.out.cellOf xa2 (by show pc ≠ pr; omega)
          have xf0 := A.out.frozenOf x0 xf0 (by show px ≠ pr; omega)
          have x0 := A.out.cellOf x0 (by show px ≠ pr; omega)
          have xf1 := A.out.frozenOf x1 xf1 (by show px ≠ pr; omega)
          have x1 := A.out.cellOf x1 (by show px ≠ pr; omega)
          have xf2 := A.out.frozenOf x2 xf2 (by show px ≠ pr; omega)
          have x2 := A.out.cellOf x2 (by show px ≠ pr; omega)
          have xf3 := A.out.frozenOf x3 xf3 (by show px ≠ pr; omega)
          have x3 := A.out.cellOf x3 (by show px ≠ pr; omega)
          have yf0 := A.out.frozenOf y0 yf0 (by show py ≠ pr; omega)
          have y0 := A.out.cellOf y0 (by show py ≠ pr; omega)
          have yf1 := A.out.frozenOf y1 yf1 (by show py ≠ pr; omega)
          have y1 := A.out.cellOf y1 (by show py ≠ pr; omega)
          have yf2 := A.out.frozenOf y2 yf2 (by show py ≠ pr; omega)
          have y2 := A.out.cellOf y2 (by show py ≠ pr; omega)
          have yf3 := A.out.frozenOf y3 yf3 (by show py ≠ pr; omega)
          have y3 := A.out.cellOf y3 (by show py ≠ pr; omega)
          have fwf := A.out.frozenOf fw fwf (by show pw ≠ pr; omega)
          have fw := A.out.cellOf fw (by show pw ≠ pr; omega)
          have fr := A.out.cell
          have frf := A.out.frozen
          have HB : Hid _ := A.out.below _ _ HB.out (by show w.heap.size ≤ pr; omega) HB.out.size
          clear A
          obtain ⟨rfl, rfl, rfl, rfl, rfl⟩ := same5 S1.out S2.out
          clear S1 S2
          go_wp2_with (fail)
          obtain ⟨V4, hV4⟩ : ∃ V, V = ((((V3.setCell ⟨py, 0, none⟩ (.int .i64 (u0))).setCell ⟨py, 1, none⟩ (.int .i64 (u1))).setCell ⟨py, 2, none⟩ (.int .i64 (u2))).setCell ⟨py, 3, none⟩ (.int .i64 (u3))) := ⟨_, rfl⟩
          rw [← hV4]
          have xf0 : V4.frozen? ⟨px, 0, none⟩ = false := by rw [hV4, set4_frozen]; exact xf0
          have xf1 : V4.frozen? ⟨px, 1, none⟩ = false := by rw [hV4, set4_frozen]; exact xf1
          have xf2 : V4.frozen? ⟨px, 2, none⟩ = false := by rw [hV4, set4_frozen]; exact xf2
          have xf3 : V4.frozen? ⟨px, 3, none⟩ = false := by rw [hV4, set4_frozen]; exact xf3
          have yf0 : V4.frozen? ⟨py, 0, none⟩ = false := by rw [hV4, set4_frozen]; exact yf0
          have yf1 : V4.frozen? ⟨py, 1, none⟩ = false := by rw [hV4, set4_frozen]; exact yf1
          have yf2 : V4.frozen? ⟨py, 2, none⟩ = false := by rw [hV4, set4_frozen]; exact yf2
          have yf3 : V4.frozen? ⟨py, 3, none⟩ = false := by rw [hV4, set4_frozen]; exact yf3
          have fwf : V4.frozen? ⟨pw, 0, none⟩ = false := by rw [hV4, set4_frozen]; exact fwf
          have frf : V4.frozen? ⟨pr, 0, none⟩ = false := by rw [hV4, set4_frozen]; exact frf
          have z3 := set4_at y0 y1 y2 y3 (.int .i64 (u0)) (.int .i64 (u1)) (.int .i64 (u2)) (.int .i64 (u3))
          rw [← hV4] at z3
          have xp0 := (show V4.cell? ⟨pa, 0, none⟩ = V3.cell? ⟨pa, 0, none⟩ by rw [hV4, set4_far (by show pa ≠ py; omega)]).trans xp0
          have xp1 := (show V4.cell? ⟨pa, 1, none⟩ = V3.cell? ⟨pa, 1, none⟩ by rw [hV4, set4_far (by show pa ≠ py; omega)]).trans xp1
          have xp2 := (show V4.cell? ⟨pa, 2, none⟩ = V3.cell? ⟨pa, 2, none⟩ by rw [hV4, set4_far (by show pa ≠ py; omega)]).trans xp2
          have xp3 := (show V4.cell? ⟨pa, 3, none⟩ = V3.cell? ⟨pa, 3, none⟩ by rw [hV4, set4_far (by show pa ≠ py; omega)]).trans xp3
          have xq0 := (show V4.cell? ⟨pb, 0, none⟩ = V3.cell? ⟨pb, 0, none⟩ by rw [hV4, set4_far (by show pb ≠ py; omega)]).trans xq0
          have xq1 := (show V4.cell? ⟨pb, 1, none⟩ = V3.cell? ⟨pb, 1, none⟩ by rw [hV4, set4_far (by show pb ≠ py; omega)]).trans xq1
          have xq2 := (show V4.cell? ⟨pb, 2, none⟩ = V3.cell? ⟨pb, 2, none⟩ by rw [hV4, set4_far (by show pb ≠ py; omega)]).trans xq2
          have xq3 := (show V4.cell? ⟨pb, 3, none⟩ = V3.cell? ⟨pb, 3, none⟩ by rw [hV4, set4_far (by show pb ≠ py; omega)]).trans xq3
          have xm0 := (show V4.cell? ⟨pm, 0, none⟩ = V3.cell? ⟨pm, 0, none⟩ by rw [hV4, set4_far (by show pm ≠ py; omega)]).trans xm0
          have xm1 := (show V4.cell? ⟨pm, 1, none⟩ = V3.cell? ⟨pm, 1, none⟩ by rw [hV4, set4_far (by show pm ≠ py; omega)]).trans xm1
          have xm2 := (show V4.cell? ⟨pm, 2, none⟩ = V3.cell? ⟨pm, 2, none⟩ by rw [hV4, set4_far (by show pm ≠ py; omega)]).trans xm2
          have xm3 := (show V4.cell? ⟨pm, 3, none⟩ = V3.cell? ⟨pm, 3, none⟩ by rw [hV4, set4_far (by show pm ≠ py; omega)]).trans xm3
          have xm4 := (show V4.cell? ⟨pm, 4, none⟩ = V3.cell? ⟨pm, 4, none⟩ by rw [hV4, set4_far (by show pm ≠ py; omega)]).trans xm4
          have xm5 := (show V4.cell? ⟨pm, 5, none⟩ = V3.cell? ⟨pm, 5, none⟩ by rw [hV4, set4_far (by show pm ≠ py; omega)]).trans xm5
          have xm6 := (show V4.cell? ⟨pm, 6, none⟩ = V3.cell? ⟨pm, 6, none⟩ by rw [hV4, set4_far (by show pm ≠ py; omega)]).trans xm6
          have xm7 := (show V4.cell? ⟨pm, 7, none⟩ = V3.cell? ⟨pm, 7, none⟩ by rw [hV4, set4_far (by show pm ≠ py; omega)]).trans xm7
          have xm8 := (show V4.cell? ⟨pm, 8, none⟩ = V3.cell? ⟨pm, 8, none⟩ by rw [hV4, set4_far (by show pm ≠ py; omega)]).trans xm8
          have xa0 := (show V4.cell? ⟨pc, 0, none⟩ = V3.cell? ⟨pc, 0, none⟩ by rw [hV4, set4_far (by show pc ≠ py; omega)]).trans xa0
          have xa1 := (show V4.cell? ⟨pc, 1, none⟩ = V3.cell? ⟨pc, 1, none⟩ by rw [hV4, set4_far (by show pc ≠ py; omega)]).trans xa1
          have xa2 := (show V4.cell? ⟨pc, 2, none⟩ = V3.cell? ⟨pc, 2, none⟩ by rw [hV4, set4_far (by show pc ≠ py; omega)]).trans xa2
          have x0 := (show V4.cell? ⟨px, 0, none⟩ = V3.cell? ⟨px, 0, none⟩ by rw [hV4, set4_far (by show px ≠ py; omega)]).trans x0
          have x1 := (show V4.cell? ⟨px, 1, none⟩ = V3.cell? ⟨px, 1, none⟩ by rw [hV4, set4_far (by show px ≠ py; omega)]).trans x1
          have x2 := (show V4.cell? ⟨px, 2, none⟩ = V3.cell? ⟨px, 2, none⟩ by rw [hV4, set4_far (by show px ≠ py; omega)]).trans x2
          have x3 := (show V4.cell? ⟨px, 3, none⟩ = V3.cell? ⟨px, 3, none⟩ by rw [hV4, set4_far (by show px ≠ py; omega)]).trans x3
          have fw := (show V4.cell? ⟨pw, 0, none⟩ = V3.cell? ⟨pw, 0, none⟩ by rw [hV4, set4_far (by show pw ≠ py; omega)]).trans fw
          have fr := (show V4.cell? ⟨pr, 0, none⟩ = V3.cell? ⟨pr, 0, none⟩ by rw [hV4, set4_far (by show pr ≠ py; omega)]).trans fr
          obtain ⟨y0, y1, y2, y3⟩ := z3
          have HB : Hid (Below w.heap.size w V4) := by show Below _ _ _; rw [hV4]; exact below4 HB.out (by omega)
          clear hV4
          go_meet
          case rel => exact ⟨u0, u1, u2, u3, h, HB, xp0, xp1, xp2, xp3, xq0, xq1, xq2, xq3, xm0, xm1, xm2, xm3, xm4, xm5, xm6, xm7, xm8, xa0, xa1, xa2, x0, x1, x2, x3, y0, y1, y2, y3, fw, fr⟩
        · go_wp2_with (fail)
          refine (vturn_law pw 0 false a2_0 a2_1 a2_2 a2_3 a2_4 a2_5 a2_6 a2_7 a2_8 a3_0 a3_1 a3_2 _ fw fwf).mono ?_
          rintro e V1 ⟨v0, v1, v2, g, rfl, S1, A⟩
          have xp0 := A.out.cellOf xp0 (by show pa ≠ pw; omega)
          have xp1 := A.out.cellOf xp1 (by show pa ≠ pw; omega)
          have xp2 := A.out.cellOf xp2 (by show pa ≠ pw; omega)
          have xp3 := A.out.cellOf xp3 (by show pa ≠ pw; omega)
          have xq0 := A.out.cellOf xq0 (by show pb ≠ pw; omega)
          have xq1 := A.out.cellOf xq1 (by show pb ≠ pw; omega)
          have xq2 := A.out.cellOf xq2 (by show pb ≠ pw; omega)
          have xq3 := A.out.cellOf xq3 (by show pb ≠ pw; omega)
          have xm0 := A.out.cellOf xm0 (by show pm ≠ pw; omega)
          have xm1 := A.out.cellOf xm1 (by show pm ≠ pw; omega)
          have xm2 := A.out.cellOf xm2 (by show pm ≠ pw; omega)
          have xm3 := A.out.cellOf xm3 (by show pm ≠ pw; omega)
          have xm4 := A.out.cellOf xm4 (by show pm ≠ pw; omega)
          have xm5 := A.out.cellOf xm5 (by show pm ≠ pw; omega)
          have xm6 := A.out.cellOf xm6 (by show pm ≠ pw; omega)
          have xm7 := A.out.cellOf xm7 (by show pm ≠ pw; omega)
          have xm8 := A.out.cellOf xm8 (by show pm ≠ pw; omega)
          have xa0 := A.out.cellOf xa0 (by show pc ≠ pw; omega)
          have xa1 := A.out.cellOf xa1 (by show pc ≠ pw; omega)
          have xa2 := A.out.cellOf xa2 (by show pc ≠ pw; omega)
          have xf0 := A.out.frozenOf x0 xf0 (by show px ≠ pw; omega)
          have x0 := A.out.cellOf x0 (by show px ≠ pw; omega)
          have xf1 := A.out.frozenOf x1 xf1 (by show px ≠ pw; omega)
          have x1 := A.out.cellOf x1 (by show px ≠ pw; omega)
          have xf2 := A.out.frozenOf x2 xf2 (by show px ≠ pw; omega)
          have x2 := A.out.cellOf x2 (by show px ≠ pw; omega)
          have xf3 := A.out.frozenOf x3 xf3 (by show px ≠ pw; omega)
          have x3 := A.out.cellOf x3 (by show px ≠ pw; omega)
          have yf0 := A.out.frozenOf y0 yf0 (by show py ≠ pw; omega)
          have y0 := A.out.cellOf y0 (by show py ≠ pw; omega)
          have yf1 := A.out.frozenOf y1 yf1 (by show py ≠ pw; omega)
          have y1 := A.out.cellOf y1 (by show py ≠ pw; omega)
          have yf2 := A.out.frozenOf y2 yf2 (by show py ≠ pw; omega)
          have y2 := A.out.cellOf y2 (by show py ≠ pw; omega)
          have yf3 := A.out.frozenOf y3 yf3 (by show py ≠ pw; omega)
          have y3 := A.out.cellOf y3 (by show py ≠ pw; omega)
          have frf := A.out.frozenOf fr frf (by show pr ≠ pw; omega)
          have fr := A.out.cellOf fr (by show pr ≠ pw; omega)
          have fw := A.out.cell
          have fwf := A.out.frozen
          have HB : Hid _ := A.out.below _ _ HB.out (by show w.heap.size ≤ pw; omega) HB.out.size
          clear A
          go_upto_region 11 with fail
          obtain ⟨bc, hbc⟩ : ∃ p, p = V1.heap.size := ⟨_, rfl⟩
          obtain ⟨V2, hV2⟩ : ∃ V, V = V1.alloc (.cells #[.int .i64 (v0), .int .i64 (v1), .int .i64 (v2)] 23) := ⟨_, rfl⟩
          rw [← hV2, ← hbc]
          have nb : Below V1.heap.size V1 V2 := by rw [hV2]; exact new_after V1 (.cells #[.int .i64 (v0), .int .i64 (v1), .int .i64 (v2)] 23)
          have ltbc : py < bc := by rw [hbc]; exact World.block_lt_of_cell? _ _ y0
          have xp0 := cell_after nb xp0
          have xp1 := cell_after nb xp1
          have xp2 := cell_after nb xp2
          have xp3 := cell_after nb xp3
          have xq0 := cell_after nb xq0
          have xq1 := cell_after nb xq1
          have xq2 := cell_after nb xq2
          have xq3 := cell_after nb xq3
          have xm0 := cell_after nb xm0
          have xm1 := cell_after nb xm1
          have xm2 := cell_after nb xm2
          have xm3 := cell_after nb xm3
          have xm4 := cell_after nb xm4
          have xm5 := cell_after nb xm5
          have xm6 := cell_after nb xm6
          have xm7 := cell_after nb xm7
          have xm8 := cell_after nb xm8
          have xa0 := cell_after nb xa0
          have xa1 := cell_after nb xa1
          have xa2 := cell_after nb xa2
          have xf0 := frozen_after nb x0 xf0
          have x0 := cell_after nb x0
          have xf1 := frozen_after nb x1 xf1
          have x1 := cell_after nb x1
          have xf2 := frozen_after nb x2 xf2
          have x2 := cell_after nb x2
          have xf3 := frozen_after nb x3 xf3
          have x3 := cell_after nb x3
          have yf0 := frozen_after nb y0 yf0
          have y0 := cell_after nb y0
          have yf1 := frozen_after nb y1 yf1
          have y1 := cell_after nb y1
          have yf2 := frozen_after nb y2 yf2
          have y2 := cell_after nb y2
          have yf3 := frozen_after nb y3 yf3
          have y3 := cell_after nb y3
          have fwf := frozen_after nb fw fwf
          have fw := cell_after nb fw
          have frf := frozen_after nb fr frf
          have fr := cell_after nb fr
          have c0 : V2.cell? ⟨bc, 0, none⟩ = some (.int .i64 (v0)) := by rw [hV2, hbc]; simp [go_sem]
          have c1 : V2.cell? ⟨bc, 1, none⟩ = some (.int .i64 (v1)) := by rw [hV2, hbc]; simp [go_sem]
          have c2 : V2.cell? ⟨bc, 2, none⟩ = some (.int .i64 (v2)) := by rw [hV2, hbc]; simp [go_sem]
          have HB : Hid _ := below_step' HB.out nb
          clear nb hV2 hbc
          go_wp2_with (fail)
          refine (rvturn_law pr 0 false a2_0 a2_1 a2_2 a2_3 a2_4 a2_5 a2_6 a2_7 a2_8 a3_0 a3_1 a3_2 _ fr frf).mono ?_
          rintro e V3 ⟨u0, u1, u2, h, rfl, S2, A⟩
          have xp0 := A.out.cellOf xp0 (by show pa ≠ pr; omega)
          have xp1 := A.out.cellOf xp1 (by show pa ≠ pr; omega)
          have xp2 := A.out.cellOf xp2 (by show pa ≠ pr; omega)
          have xp3 := A.out.cellOf xp3 (by show pa ≠ pr; omega)
          have xq0 := A.out.cellOf xq0 (by show pb ≠ pr; omega)
          have xq1 := A.out.cellOf xq1 (by show pb ≠ pr; omega)
          have xq2 := A.out.cellOf xq2 (by show pb ≠ pr; omega)
          have xq3 := A.out.cellOf xq3 (by show pb ≠ pr; omega)
          have xm0 := A.out.cellOf xm0 (by show pm ≠ pr; omega)
          have xm1 := A.out.cellOf xm1 (by show pm ≠ pr; omega)
          have xm2 := A.out.cellOf xm2 (by show pm ≠ pr; omega)
          have xm3 := A.out.cellOf xm3 (by show pm ≠ pr; omega)
          have xm4 := A.out.cellOf xm4 (by show pm ≠ pr; omega)
          have xm5 := A.out.cellOf xm5 (by show pm ≠ pr; omega)
          have xm6 := A.out.cellOf xm6 (by show pm ≠ pr; omega)
          have xm7 := A.out.cellOf xm7 (by show pm ≠ pr; omega)
          have xm8 := A.out.cellOf xm8 (by show pm ≠ pr; omega)
          have xa0 := A.out.cellOf xa0 (by show pc ≠ pr; omega)
          have xa1 := A.out.cellOf xa1 (by show pc ≠ pr; omega)
          have xa2 := A.out.cellOf xa2 (by show pc ≠ pr; omega)
          have xf0 := A.out.frozenOf x0 xf0 (by show px ≠ pr; omega)
          have x0 := A.out.cellOf x0 (by show px ≠ pr; omega)
          have xf1 := A.out.frozenOf x1 xf1 (by show px ≠ pr; omega)
          have x1 := A.out.cellOf x1 (by show px ≠ pr; omega)
          have xf2 := A.out.frozenOf x2 xf2 (by show px ≠ pr; omega)
          have x2 := A.out.cellOf x2 (by show px ≠ pr; omega)
          have xf3 := A.out.frozenOf x3 xf3 (by show px ≠ pr; omega)
          have x3 := A.out.cellOf x3 (by show px ≠ pr; omega)
          have yf0 := A.out.frozenOf y0 yf0 (by show py ≠ pr; omega)
          have y0 := A.out.cellOf y0 (by show py ≠ pr; omega)
          have yf1 := A.out.frozenOf y1 yf1 (by show py ≠ pr; omega)
          have y1 := A.out.cellOf y1 (by show py ≠ pr; omega)
          have yf2 := A.out.frozenOf y2 yf2 (by show py ≠ pr; omega)
          have y2 := A.out.cellOf y2 (by show py ≠ pr; omega)
          have yf3 := A.out.frozenOf y3 yf3 (by show py ≠ pr; omega)
          have y3 := A.out.cellOf y3 (by show py ≠ pr; omega)
          have fwf := A.out.frozenOf fw fwf (by show pw ≠ pr; omega)
          have fw := A.out.cellOf fw (by show pw ≠ pr; omega)
          have c0 := A.out.cellOf c0 (by show bc ≠ pr; omega)
          have c1 := A.out.cellOf c1 (by show bc ≠ pr; omega)
          have c2 := A.out.cellOf c2 (by show bc ≠ pr; omega)
          have fr := A.out.cell
          have frf := A.out.frozen
          have HB : Hid _ := A.out.below _ _ HB.out (by show w.heap.size ≤ pr; omega) HB.out.size
          clear A
          obtain ⟨rfl, rfl, rfl, rfl⟩ := step3_same S1.out S2.out
          clear S1 S2
          go_upto_region 12 with fail
          obtain ⟨bd, hbd⟩ : ∃ p, p = V3.heap.size := ⟨_, rfl⟩
          obtain ⟨V4, hV4⟩ : ∃ V, V = V3.alloc (.cells #[.int .i64 (u0), .int .i64 (u1), .int .i64 (u2)] 23) := ⟨_, rfl⟩
          rw [← hV4, ← hbd]
          have nb : Below V3.heap.size V3 V4 := by rw [hV4]; exact new_after V3 (.cells #[.int .i64 (u0), .int .i64 (u1), .int .i64 (u2)] 23)
          have ltbd : py < bd := by rw [hbd]; exact World.block_lt_of_cell? _ _ y0
          have lt2bd : bc < bd := by rw [hbd]; exact World.block_lt_of_cell? _ _ c0
          have xp0 := cell_after nb xp0
          have xp1 := cell_after nb xp1
          have xp2 := cell_after nb xp2
          have xp3 := cell_after nb xp3
          have xq0 := cell_after nb xq0
          have xq1 := cell_after nb xq1
          have xq2 := cell_after nb xq2
          have xq3 := cell_after nb xq3
          have xm0 := cell_after nb xm0
          have xm1 := cell_after nb xm1
          have xm2 := cell_after nb xm2
          have xm3 := cell_after nb xm3
          have xm4 := cell_after nb xm4
          have xm5 := cell_after nb xm5
          have xm6 := cell_after nb xm6
          have xm7 := cell_after nb xm7
          have xm8 := cell_after nb xm8
          have xa0 := cell_after nb xa0
          have xa1 := cell_after nb xa1
          have xa2 := cell_after nb xa2
          have xf0 := frozen_after nb x0 xf0
          have x0 := cell_after nb x0
          have xf1 := frozen_after nb x1 xf1
          have x1 := cell_after nb x1
          have xf2 := frozen_after nb x2 xf2
          have x2 := cell_after nb x2
          have xf3 := frozen_after nb x3 xf3
          have x3 := cell_after nb x3
          have yf0 := frozen_after nb y0 yf0
          have y0 := cell_after nb y0
          have yf1 := frozen_after nb y1 yf1
          have y1 := cell_after nb y1
          have yf2 := frozen_after nb y2 yf2
          have y2 := cell_after nb y2
          have yf3 := frozen_after nb y3 yf3
          have y3 := cell_after nb y3
          have fwf := frozen_after nb fw fwf
          have fw := cell_after nb fw
          have frf := frozen_after nb fr frf
          have fr := cell_after nb fr
          have c0 := cell_after nb c0
          have c1 := cell_after nb c1
          have c2 := cell_after nb c2
          have d0 : V4.cell? ⟨bd, 0, none⟩ = some (.int .i64 (u0)) := by rw [hV4, hbd]; simp [go_sem]
          have d1 : V4.cell? ⟨bd, 1, none⟩ = some (.int .i64 (u1)) := by rw [hV4, hbd]; simp [go_sem]
          have d2 : V4.cell? ⟨bd, 2, none⟩ = some (.int .i64 (u2)) := by rw [hV4, hbd]; simp [go_sem]
          have HB : Hid _ := below_step' HB.out nb
          clear nb hV4 hbd
          go_upto_region 13 with fail
          obtain ⟨V5, hV5⟩ : ∃ V, V = ((((V4.setCell ⟨px, 0, none⟩ (.int .i64 (0))).setCell ⟨px, 1, none⟩ (.int .i64 (u0))).setCell ⟨px, 2, none⟩ (.int .i64 (u1))).setCell ⟨px, 3, none⟩ (.int .i64 (u2))) := ⟨_, rfl⟩
          rw [← hV5]
          have xf0 : V5.frozen? ⟨px, 0, none⟩ = false := by rw [hV5, set4_frozen]; exact xf0
          have xf1 : V5.frozen? ⟨px, 1, none⟩ = false := by rw [hV5, set4_frozen]; exact xf1
          have xf2 : V5.frozen? ⟨px, 2, none⟩ = false := by rw [hV5, set4_frozen]; exact xf2
          have xf3 : V5.frozen? ⟨px, 3, none⟩ = false := by rw [hV5, set4_frozen]; exact xf3
          have yf0 : V5.frozen? ⟨py, 0, none⟩ = false := by rw [hV5, set4_frozen]; exact yf0
          have yf1 : V5.frozen? ⟨py, 1, none⟩ = false := by rw [hV5, set4_frozen]; exact yf1
          have yf2 : V5.frozen? ⟨py, 2, none⟩ = false := by rw [hV5, set4_frozen]; exact yf2
          have yf3 : V5.frozen? ⟨py, 3, none⟩ = false := by rw [hV5, set4_frozen]; exact yf3
          have fwf : V5.frozen? ⟨pw, 0, none⟩ = false := by rw [hV5, set4_frozen]; exact fwf
          have frf : V5.frozen? ⟨pr, 0, none⟩ = false := by rw [hV5, set4_frozen]; exact frf
          have z3 := set4_at x0 x1 x2 x3 (.int .i64 (0)) (.int .i64 (u0)) (.int .i64 (u1)) (.int .i64 (u2))
          rw [← hV5] at z3
          have xp0 := (show V5.cell? ⟨pa, 0, none⟩ = V4.cell? ⟨pa, 0, none⟩ by rw [hV5, set4_far (by show pa ≠ px; omega)]).trans xp0
          have xp1 := (show V5.cell? ⟨pa, 1, none⟩ = V4.cell? ⟨pa, 1, none⟩ by rw [hV5, set4_far (by show pa ≠ px; omega)]).trans xp1
          have xp2 := (show V5.cell? ⟨pa, 2, none⟩ = V4.cell? ⟨pa, 2, none⟩ by rw [hV5, set4_far (by show pa ≠ px; omega)]).trans xp2
          have xp3 := (show V5.cell? ⟨pa, 3, none⟩ = V4.cell? ⟨pa, 3, none⟩ by rw [hV5, set4_far (by show pa ≠ px; omega)]).trans xp3
          have xq0 := (show V5.cell? ⟨pb, 0, none⟩ = V4.cell? ⟨pb, 0, none⟩ by rw [hV5, set4_far (by show pb ≠ px; omega)]).trans xq0
          have xq1 := (show V5.cell? ⟨pb, 1, none⟩ = V4.cell? ⟨pb, 1, none⟩ by rw [hV5, set4_far (by show pb ≠ px; omega)]).trans xq1
          have xq2 := (show V5.cell? ⟨pb, 2, none⟩ = V4.cell? ⟨pb, 2, none⟩ by rw [hV5, set4_far (by show pb ≠ px; omega)]).trans xq2
          have xq3 := (show V5.cell? ⟨pb, 3, none⟩ = V4.cell? ⟨pb, 3, none⟩ by rw [hV5, set4_far (by show pb ≠ px; omega)]).trans xq3
          have xm0 := (show V5.cell? ⟨pm, 0, none⟩ = V4.cell? ⟨pm, 0, none⟩ by rw [hV5, set4_far (by show pm ≠ px; omega)]).trans xm0
          have xm1 := (show V5.cell? ⟨pm, 1, none⟩ = V4.cell? ⟨pm, 1, none⟩ by rw [hV5, set4_far (by show pm ≠ px; omega)]).trans xm1
          have xm2 := (show V5.cell? ⟨pm, 2, none⟩ = V4.cell? ⟨pm, 2, none⟩ by rw [hV5, set4_far (by show pm ≠ px; omega)]).trans xm2
          have xm3 := (show V5.cell? ⟨pm, 3, none⟩ = V4.cell? ⟨pm, 3, none⟩ by rw [hV5, set4_far (by show pm ≠ px; omega)]).trans xm3
          have xm4 := (show V5.cell? ⟨pm, 4, none⟩ = V4.cell? ⟨pm, 4, none⟩ by rw [hV5, set4_far (by show pm ≠ px; omega)]).trans xm4
          have xm5 := (show V5.cell? ⟨pm, 5, none⟩ = V4.cell? ⟨pm, 5, none⟩ by rw [hV5, set4_far (by show pm ≠ px; omega)]).trans xm5
          have xm6 := (show V5.cell? ⟨pm, 6, none⟩ = V4.cell? ⟨pm, 6, none⟩ by rw [hV5, set4_far (by show pm ≠ px; omega)]).trans xm6
          have xm7 := (show V5.cell? ⟨pm, 7, none⟩ = V4.cell? ⟨pm, 7, none⟩ by rw [hV5, set4_far (by show pm ≠ px; omega)]).trans xm7
          have xm8 := (show V5.cell? ⟨pm, 8, none⟩ = V4.cell? ⟨pm, 8, none⟩ by rw [hV5, set4_far (by show pm ≠ px; omega)]).trans xm8
          have xa0 := (show V5.cell? ⟨pc, 0, none⟩ = V4.cell? ⟨pc, 0, none⟩ by rw [hV5, set4_far (by show pc ≠ px; omega)]).trans xa0
          have xa1 := (show V5.cell? ⟨pc, 1, none⟩ = V4.cell? ⟨pc, 1, none⟩ by rw [hV5, set4_far (by show pc ≠ px; omega)]).trans xa1
          have xa2 := (show V5.cell? ⟨pc, 2, none⟩ = V4.cell? ⟨pc, 2, none⟩ by rw [hV5, set4_far (by show pc ≠ px; omega)]).trans xa2
          have y0 := (show V5.cell? ⟨py, 0, none⟩ = V4.cell? ⟨py, 0, none⟩ by rw [hV5, set4_far (by show py ≠ px; omega)]).trans y0
          have y1 := (show V5.cell? ⟨py, 1, none⟩ = V4.cell? ⟨py, 1, none⟩ by rw [hV5, set4_far (by show py ≠ px; omega)]).trans y1
          have y2 := (show V5.cell? ⟨py, 2, none⟩ = V4.cell? ⟨py, 2, none⟩ by rw [hV5, set4_far (by show py ≠ px; omega)]).trans y2
          have y3 := (show V5.cell? ⟨py, 3, none⟩ = V4.cell? ⟨py, 3, none⟩ by rw [hV5, set4_far (by show py ≠ px; omega)]).trans y3
          have fw := (show V5.cell? ⟨pw, 0, none⟩ = V4.cell? ⟨pw, 0, none⟩ by rw [hV5, set4_far (by show pw ≠ px; omega)]).trans fw
          have fr := (show V5.cell? ⟨pr, 0, none⟩ = V4.cell? ⟨pr, 0, none⟩ by rw [hV5, set4_far (by show pr ≠ px; omega)]).trans fr
          have c0 := (show V5.cell? ⟨bc, 0, none⟩ = V4.cell? ⟨bc, 0, none⟩ by rw [hV5, set4_far (by show bc ≠ px; omega)]).trans c0
          have c1 := (show V5.cell? ⟨bc, 1, none⟩ = V4.cell? ⟨bc, 1, none⟩ by rw [hV5, set4_far (by show bc ≠ px; omega)]).trans c1
          have c2 := (show V5.cell? ⟨bc, 2, none⟩ = V4.cell? ⟨bc, 2, none⟩ by rw [hV5, set4_far (by show bc ≠ px; omega)]).trans c2
          have d0 := (show V5.cell? ⟨bd, 0, none⟩ = V4.cell? ⟨bd, 0, none⟩ by rw [hV5, set4_far (by show bd ≠ px; omega)]).trans d0
          have d1 := (show V5.cell? ⟨bd, 1, none⟩ = V4.cell? ⟨bd, 1, none⟩ by rw [hV5, set4_far (by show bd ≠ px; omega)]).trans d1
          have d2 := (show V5.cell? ⟨bd, 2, none⟩ = V4.cell? ⟨bd, 2, none⟩ by rw [hV5, set4_far (by show bd ≠ px; omega)]).trans d2
          obtain ⟨x0, x1, x2, x3⟩ := z3
          have HB : Hid (Below w.heap.size w V5) := by show Below _ _ _; rw [hV5]; exact below4 HB.out (by omega)
          clear hV5
          go_wp2_with (fail)
          obtain ⟨V6, hV6⟩ : ∃ V, V = ((((V5.setCell ⟨py, 0, none⟩ (.int .i64 (0))).setCell ⟨py, 1, none⟩ (.int .i64 (u0))).setCell ⟨py, 2, none⟩ (.int .i64 (u1))).setCell ⟨py, 3, none⟩ (.int .i64 (u2))) := ⟨_, rfl⟩
          rw [← hV6]
          have xf0 : V6.frozen? ⟨px, 0, none⟩ = false := by rw [hV6, set4_frozen]; exact xf0
          have xf1 : V6.frozen? ⟨px, 1, none⟩ = false := by rw [hV6, set4_frozen]; exact xf1
          have xf2 : V6.frozen? ⟨px, 2, none⟩ = false := by rw [hV6, set4_frozen]; exact xf2
          have xf3 : V6.frozen? ⟨px, 3, none⟩ = false := by rw [hV6, set4_frozen]; exact xf3
          have yf0 : V6.frozen? ⟨py, 0, none⟩ = false := by rw [hV6, set4_frozen]; exact yf0
          have yf1 : V6.frozen? ⟨py, 1, none⟩ = false := by rw [hV6, set4_frozen]; exact yf1
          have yf2 : V6.frozen? ⟨py, 2, none⟩ = false := by rw [hV6, set4_frozen]; exact yf2
          have yf3 : V6.frozen? ⟨py, 3, none⟩ = false := by rw [hV6, set4_frozen]; exact yf3
          have fwf : V6.frozen? ⟨pw, 0, none⟩ = false := by rw [hV6, set4_frozen]; exact fwf
          have frf : V6.frozen? ⟨pr, 0, none⟩ = false := by rw [hV6, set4_frozen]; exact frf
          have z3 := set4_at y0 y1 y2 y3 (.int .i64 (0)) (.int .i64 (u0)) (.int .i64 (u1)) (.int .i64 (u2))
          rw [← hV6] at z3
          have xp0 := (show V6.cell? ⟨pa, 0, none⟩ = V5.cell? ⟨pa, 0, none⟩ by rw [hV6, set4_far (by show pa ≠ py; omega)]).trans xp0
          have xp1 := (show V6.cell? ⟨pa, 1, none⟩ = V5.cell? ⟨pa, 1, none⟩ by rw [hV6, set4_far (by show pa ≠ py; omega)]).trans xp1
          have xp2 := (show V6.cell? ⟨pa, 2, none⟩ = V5.cell? ⟨pa, 2, none⟩ by rw [hV6, set4_far (by show pa ≠ py; omega)]).trans xp2
          have xp3 := (show V6.cell? ⟨pa, 3, none⟩ = V5.cell? ⟨pa, 3, none⟩ by rw [hV6, set4_far (by show pa ≠ py; omega)]).trans xp3
          have xq0 := (show V6.cell? ⟨pb, 0, none⟩ = V5.cell? ⟨pb, 0, none⟩ by rw [hV6, set4_far (by show pb ≠ py; omega)]).trans xq0
          have xq1 := (show V6.cell? ⟨pb, 1, none⟩ = V5.cell? ⟨pb, 1, none⟩ by rw [hV6, set4_far (by show pb ≠ py; omega)]).trans xq1
          have xq2 := (show V6.cell? ⟨pb, 2, none⟩ = V5.cell? ⟨pb, 2, none⟩ by rw [hV6, set4_far (by show pb ≠ py; omega)]).trans xq2
          have xq3 := (show V6.cell? ⟨pb, 3, none⟩ = V5.cell? ⟨pb, 3, none⟩ by rw [hV6, set4_far (by show pb ≠ py; omega)]).trans xq3
          have xm0 := (show V6.cell? ⟨pm, 0, none⟩ = V5.cell? ⟨pm, 0, none⟩ by rw [hV6, set4_far (by show pm ≠ py; omega)]).trans xm0
          have xm1 := (show V6.cell? ⟨pm, 1, none⟩ = V5.cell? ⟨pm, 1, none⟩ by rw [hV6, set4_far (by show pm ≠ py; omega)]).trans xm1
          have xm2 := (show V6.cell? ⟨pm, 2, none⟩ = V5.cell? ⟨pm, 2, none⟩ by rw [hV6, set4_far (by show pm ≠ py; omega)]).trans xm2
          have xm3 := (show V6.cell? ⟨pm, 3, none⟩ = V5.cell? ⟨pm, 3, none⟩ by rw [hV6, set4_far (by show pm ≠ py; omega)]).trans xm3
          have xm4 := (show V6.cell? ⟨pm, 4, none⟩ = V5.cell? ⟨pm, 4, none⟩ by rw [hV6, set4_far (by show pm ≠ py; omega)]).trans xm4
          have xm5 := (show V6.cell? ⟨pm, 5, none⟩ = V5.cell? ⟨pm, 5, none⟩ by rw [hV6, set4_far (by show pm ≠ py; omega)]).trans xm5
          have xm6 := (show V6.cell? ⟨pm, 6, none⟩ = V5.cell? ⟨pm, 6, none⟩ by rw [hV6, set4_far (by show pm ≠ py; omega)]).trans xm6
          have xm7 := (show V6.cell? ⟨pm, 7, none⟩ = V5.cell? ⟨pm, 7, none⟩ by rw [hV6, set4_far (by show pm ≠ py; omega)]).trans xm7
          have xm8 := (show V6.cell? ⟨pm, 8, none⟩ = V5.cell? ⟨pm, 8, none⟩ by rw [hV6, set4_far (by show pm ≠ py; omega)]).trans xm8
          have xa0 := (show V6.cell? ⟨pc, 0, none⟩ = V5.cell? ⟨pc, 0, none⟩ by rw [hV6, set4_far (by show pc ≠ py; omega)]).trans xa0
          have xa1 := (show V6.cell? ⟨pc, 1, none⟩ = V5.cell? ⟨pc, 1, none⟩ by rw [hV6, set4_far (by show pc ≠ py; omega)]).trans xa1
          have xa2 := (show V6.cell? ⟨pc, 2, none⟩ = V5.cell? ⟨pc, 2, none⟩ by rw [hV6, set4_far (by show pc ≠ py; omega)]).trans xa2
          have x0 := (show V6.cell? ⟨px, 0, none⟩ = V5.cell? ⟨px, 0, none⟩ by rw [hV6, set4_far (by show px ≠ py; omega)]).trans x0
          have x1 := (show V6.cell? ⟨px, 1, none⟩ = V5.cell? ⟨px, 1, none⟩ by rw [hV6, set4_far (by show px ≠ py; omega)]).trans x1
          have x2 := (show V6.cell? ⟨px, 2, none⟩ = V5.cell? ⟨px, 2, none⟩ by rw [hV6, set4_far (by show px ≠ py; omega)]).trans x2
          have x3 := (show V6.cell? ⟨px, 3, none⟩ = V5.cell? ⟨px, 3, none⟩ by rw [hV6, set4_far (by show px ≠ py; omega)]).trans x3
          have fw := (show V6.cell? ⟨pw, 0, none⟩ = V5.cell? ⟨pw, 0, none⟩ by rw [hV6, set4_far (by show pw ≠ py; omega)]).trans fw
          have fr := (show V6.cell? ⟨pr, 0, none⟩ = V5.cell? ⟨pr, 0, none⟩ by rw [hV6, set4_far (by show pr ≠ py; omega)]).trans fr
          have c0 := (show V6.cell? ⟨bc, 0, none⟩ = V5.cell? ⟨bc, 0, none⟩ by rw [hV6, set4_far (by show bc ≠ py; omega)]).trans c0
          have c1 := (show V6.cell? ⟨bc, 1, none⟩ = V5.cell? ⟨bc, 1, none⟩ by rw [hV6, set4_far (by show bc ≠ py; omega)]).trans c1
          have c2 := (show V6.cell? ⟨bc, 2, none⟩ = V5.cell? ⟨bc, 2, none⟩ by rw [hV6, set4_far (by show bc ≠ py; omega)]).trans c2
          have d0 := (show V6.cell? ⟨bd, 0, none⟩ = V5.cell? ⟨bd, 0, none⟩ by rw [hV6, set4_far (by show bd ≠ py; omega)]).trans d0
          have d1 := (show V6.cell? ⟨bd, 1, none⟩ = V5.cell? ⟨bd, 1, none⟩ by rw [hV6, set4_far (by show bd ≠ py; omega)]).trans d1
          have d2 := (show V6.cell? ⟨bd, 2, none⟩ = V5.cell? ⟨bd, 2, none⟩ by rw [hV6, set4_far (by show bd ≠ py; omega)]).trans d2
          obtain ⟨y0, y1, y2, y3⟩ := z3
          have HB : Hid (Below w.heap.size w V6) := by show Below _ _ _; rw [hV6]; exact below4 HB.out (by omega)
          clear hV6
          go_meet
          case rel => exact ⟨0, u0, u1, u2, h, HB, xp0, xp1, xp2, xp3, xq0, xq1, xq2, xq3, xm0, xm1, xm2, xm3, xm4, xm5, xm6, xm7, xm8, xa0, xa1, xa2, x0, x1, x2, x3, y0, y1, y2, y3, fw, fr⟩
      case rest =>
        clear HB xp0 xp1 xp2 xp3 xq0 xq1 xq2 xq3 xm0 xm1 xm2 xm3 xm4 xm5 xm6 xm7 xm8 xa0 xa1 xa2 x0 x1 x2 x3 y0 y1 y2 y3 fw fr xf0 xf1 xf2 xf3 yf0 yf1 yf2 yf3 fwf frf
        obtain ⟨v0, v1, v2, v3, g, HB, xp0, xp1, xp2, xp3, xq0, xq1, xq2, xq3, xm0, xm1, xm2, xm3, xm4, xm5, xm6, xm7, xm8, xa0, xa1, xa2, x0, x1, x2, x3, y0, y1, y2, y3, fw, fr⟩ := hcut
        go_wp2_with (fail)
        go_quiet (fail)
        obtain ⟨V9, hV9⟩ : ∃ V, V = wc.drewN nq := ⟨_, rfl⟩
        rw [← hV9]
        have xp0 := (show V9.cell? ⟨pa, 0, none⟩ = wc.cell? ⟨pa, 0, none⟩ by rw [hV9]; rfl).trans xp0
        have xp1 := (show V9.cell? ⟨pa, 1, none⟩ = wc.cell? ⟨pa, 1, none⟩ by rw [hV9]; rfl).trans xp1
        have xp2 := (show V9.cell? ⟨pa, 2, none⟩ = wc.cell? ⟨pa, 2, none⟩ by rw [hV9]; rfl).trans xp2
        have xp3 := (show V9.cell? ⟨pa, 3, none⟩ = wc.cell? ⟨pa, 3, none⟩ by rw [hV9]; rfl).trans xp3
        have xq0 := (show V9.cell? ⟨pb, 0, none⟩ = wc.cell? ⟨pb, 0, none⟩ by rw [hV9]; rfl).trans xq0
        have xq1 := (show V9.cell? ⟨pb, 1, none⟩ = wc.cell? ⟨pb, 1, none⟩ by rw [hV9]; rfl).trans xq1
        have xq2 := (show V9.cell? ⟨pb, 2, none⟩ = wc.cell? ⟨pb, 2, none⟩ by rw [hV9]; rfl).trans xq2
        have xq3 := (show V9.cell? ⟨pb, 3, none⟩ = wc.cell? ⟨pb, 3, none⟩ by rw [hV9]; rfl).trans xq3
        have xm0 := (show V9.cell? ⟨pm, 0, none⟩ = wc.cell? ⟨pm, 0, none⟩ by rw [hV9]; rfl).trans xm0
        have xm1 := (show V9.cell? ⟨pm, 1, none⟩ = wc.cell? ⟨pm, 1, none⟩ by rw [hV9]; rfl).trans xm1
        have xm2 := (show V9.cell? ⟨pm, 2, none⟩ = wc.cell? ⟨pm, 2, none⟩ by rw [hV9]; rfl).trans xm2
        have xm3 := (show V9.cell? ⟨pm, 3, none⟩ = wc.cell? ⟨pm, 3, none⟩ by rw [hV9]; rfl).trans xm3
        have xm4 := (show V9.cell? ⟨pm, 4, none⟩ = wc.cell? ⟨pm, 4, none⟩ by rw [hV9]; rfl).trans xm4
        have xm5 := (show V9.cell? ⟨pm, 5, none⟩ = wc.cell? ⟨pm, 5, none⟩ by rw [hV9]; rfl).trans xm5
        have xm6 := (show V9.cell? ⟨pm, 6, none⟩ = wc.cell? ⟨pm, 6, none⟩ by rw [hV9]; rfl).trans xm6
        have xm7 := (show V9.cell? ⟨pm, 7, none⟩ = wc.cell? ⟨pm, 7, none⟩ by rw [hV9]; rfl).trans xm7
        have xm8 := (show V9.cell? ⟨pm, 8, none⟩ = wc.cell? ⟨pm, 8, none⟩ by rw [hV9]; rfl).trans xm8
        have xa0 := (show V9.cell? ⟨pc, 0, none⟩ = wc.cell? ⟨pc, 0, none⟩ by rw [hV9]; rfl).trans xa0
        have xa1 := (show V9.cell? ⟨pc, 1, none⟩ = wc.cell? ⟨pc, 1, none⟩ by rw [hV9]; rfl).trans xa1
        have xa2 := (show V9.cell? ⟨pc, 2, none⟩ = wc.cell? ⟨pc, 2, none⟩ by rw [hV9]; rfl).trans xa2
        have HB9 : Hid (Below w.heap.size w V9) := by show Below _ _ _; rw [hV9]; exact HB.out.trans ⟨rfl, rfl, rfl, Nat.le_refl _, fun _ _ => rfl⟩
        have qv : pc < V9.heap.size := World.block_lt_of_cell? _ _ xa0
        clear hV9 HB
        go_wp2_with (fail)
        go_roundg ((4 - (z + 1)).toNat)
        case measure => have := HGK.out; omega
        case rel => exact ⟨z + 1, rfl, by omega, by omega, rfl, qv, HB9, xp0, xp1, xp2, xp3, xq0, xq1, xq2, xq3, xm0, xm1, xm2, xm3, xm4, xm5, xm6, xm7, xm8, xa0, xa1, xa2⟩
    · clear hz0 hz7 HGK
      go_upto_region 27 with fail
      clear hz
      obtain ⟨W0, hW0⟩ : ∃ W, W = ((wr.alloc (.cells #[.bool false] 27)).alloc (.cells #[.bool false] 29)) := ⟨_, rfl⟩
      obtain ⟨pw, hpw⟩ : ∃ p, p = wr.heap.size := ⟨_, rfl⟩
      obtain ⟨pr, hpr⟩ : ∃ p, p = wr.heap.size + 1 := ⟨_, rfl⟩
      have hbW : Below wr.heap.size wr W0 := by rw [hW0]; exact (((Below.refl _ wr).alloc (Nat.le_refl _) _).alloc (by first | (simp; done) | (simp; omega)) _)
      have HB : Hid _ := below_step' HB.out hbW
      have xp0 := cell_after hbW xp0
      have xp1 := cell_after hbW xp1
      have xp2 := cell_after hbW xp2
      have xp3 := cell_after hbW xp3
      have xq0 := cell_after hbW xq0
      have xq1 := cell_after hbW xq1
      have xq2 := cell_after hbW xq2
      have xq3 := cell_after hbW xq3
      have xm0 := cell_after hbW xm0
      have xm1 := cell_after hbW xm1
      have xm2 := cell_after hbW xm2
      have xm3 := cell_after hbW xm3
      have xm4 := cell_after hbW xm4
      have xm5 := cell_after hbW xm5
      have xm6 := cell_after hbW xm6
      have xm7 := cell_after hbW xm7
      have xm8 := cell_after hbW xm8
      have xa0 := cell_after hbW xa0
      have xa1 := cell_after hbW xa1
      have xa2 := cell_after hbW xa2
      have fw : W0.cell? ⟨pw, 0, none⟩ = some (.bool false) := by rw [hW0, hpw]; simp [go_sem]
      have fwf : W0.frozen? ⟨pw, 0, none⟩ = false := by rw [hW0, hpw]; simp [go_sem]
      have fr : W0.cell? ⟨pr, 0, none⟩ = some (.bool false) := by rw [hW0, hpr]; simp [go_sem]
      have frf : W0.frozen? ⟨pr, 0, none⟩ = false := by rw [hW0, hpr]; simp [go_sem]
      have hszW : W0.heap.size = wr.heap.size + 2 := by rw [hW0]; simp
      rw [← hW0, ← hpr, ← hpw]
      have o1 : pc < pw := by omega
      have o2 : pw < pr := by omega
      clear hW0 hbW qv hszW hpw hpr
      go_wp2_with (fail)
      refine (vrows_law pw 0 false a0_0 a0_1 a0_2 a0_3 _ fw fwf).mono ?_
      rintro e V1 ⟨rfl, A⟩
      obtain ⟨r0, hr0⟩ : ∃ r : Int, r = (cond (rowsBad a0_0 a0_1 a0_2 a0_3) 0 (rowsAt0 a0_0 a0_1 a0_2 a0_3)) := ⟨_, rfl⟩
      obtain ⟨r1, hr1⟩ : ∃ r : Int, r = (cond (rowsBad a0_0 a0_1 a0_2 a0_3) 0 (rowsAt1 a0_0 a0_1 a0_2 a0_3)) := ⟨_, rfl⟩
      obtain ⟨r2, hr2⟩ : ∃ r : Int, r = (cond (rowsBad a0_0 a0_1 a0_2 a0_3) 0 (rowsAt2 a0_0 a0_1 a0_2 a0_3)) := ⟨_, rfl⟩
      obtain ⟨r3, hr3⟩ : ∃ r : Int, r = (cond (rowsBad a0_0 a0_1 a0_2 a0_3) 0 (rowsAt3 a0_0 a0_1 a0_2 a0_3)) := ⟨_, rfl⟩
      obtain ⟨r4, hr4⟩ : ∃ r : Int, r = (cond (rowsBad a0_0 a0_1 a0_2 a0_3) 0 (rowsAt4 a0_0 a0_1 a0_2 a0_3)) := ⟨_, rfl⟩
      obtain ⟨r5, hr5⟩ : ∃ r : Int, r = (cond (rowsBad a0_0 a0_1 a0_2 a0_3) 0 (rowsAt5 a0_0 a0_1 a0_2 a0_3)) := ⟨_, rfl⟩
      obtain ⟨r6, hr6⟩ : ∃ r : Int, r = (cond (rowsBad a0_0 a0_1 a0_2 a0_3) 0 (rowsAt6 a0_0 a0_1 a0_2 a0_3)) := ⟨_, rfl⟩
      obtain ⟨r7, hr7⟩ : ∃ r : Int, r = (cond (rowsBad a0_0 a0_1 a0_2 a0_3) 0 (rowsAt7 a0_0 a0_1 a0_2 a0_3)) := ⟨_, rfl⟩
      obtain ⟨r8, hr8⟩ : ∃ r : Int, r = (cond (rowsBad a0_0 a0_1 a0_2 a0_3) 0 (rowsAt8 a0_0 a0_1 a0_2 a0_3)) := ⟨_, rfl⟩
      obtain ⟨gb, hgb⟩ : ∃ g : Bool, g = (false || rowsBad a0_0 a0_1 a0_2 a0_3) := ⟨_, rfl⟩
      rw [← hgb] at A
      rw [← hr0, ← hr1, ← hr2, ← hr3, ← hr4, ← hr5, ← hr6, ← hr7, ← hr8]
      have HGB : Hid _ := hgb
      clear hgb
      have HR0 : Hid _ := hr0
      have HR1 : Hid _ := hr1
      have HR2 : Hid _ := hr2
      have HR3 : Hid _ := hr3
      have HR4 : Hid _ := hr4
      have HR5 : Hid _ := hr5
      have HR6 : Hid _ := hr6
      have HR7 : Hid _ := hr7
      have HR8 : Hid _ := hr8
      clear hr0 hr1 hr2 hr3 hr4 hr5 hr6 hr7 hr8
      have xp0 := A.out.cellOf xp0 (by show pa ≠ pw; omega)
      have xp1 := A.out.cellOf xp1 (by show pa ≠ pw; omega)
      have xp2 := A.out.cellOf xp2 (by show pa ≠ pw; omega)
      have xp3 := A.out.cellOf xp3 (by show pa ≠ pw; omega)
      have xq0 := A.out.cellOf xq0 (by show pb ≠ pw; omega)
      have xq1 := A.out.cellOf xq1 (by show pb ≠ pw; omega)
      have xq2 := A.out.cellOf xq2 (by show pb ≠ pw; omega)
      have xq3 := A.out.cellOf xq3 (by show pb ≠ pw; omega)
      have xm0 := A.out.cellOf xm0 (by show pm ≠ pw; omega)
      have xm1 := A.out.cellOf xm1 (by show pm ≠ pw; omega)
      have xm2 := A.out.cellOf xm2 (by show pm ≠ pw; omega)
      have xm3 := A.out.cellOf xm3 (by show pm ≠ pw; omega)
      have xm4 := A.out.cellOf xm4 (by show pm ≠ pw; omega)
      have xm5 := A.out.cellOf xm5 (by show pm ≠ pw; omega)
      have xm6 := A.out.cellOf xm6 (by show pm ≠ pw; omega)
      have xm7 := A.out.cellOf xm7 (by show pm ≠ pw; omega)
      have xm8 := A.out.cellOf xm8 (by show pm ≠ pw; omega)
      have xa0 := A.out.cellOf xa0 (by show pc ≠ pw; omega)
      have xa1 := A.out.cellOf xa1 (by show pc ≠ pw; omega)
      have xa2 := A.out.cellOf xa2 (by show pc ≠ pw; omega)
      have frf := A.out.frozenOf fr frf (by show pr ≠ pw; omega)
      have fr := A.out.cellOf fr (by show pr ≠ pw; omega)
      have fw := A.out.cell
      have fwf := A.out.frozen
      have HB : Hid _ := A.out.below _ _ HB.out (by show w.heap.size ≤ pw; omega) HB.out.size
      clear A
      go_upto_region 28 with fail
      obtain ⟨bx, hbx⟩ : ∃ p, p = V1.heap.size := ⟨_, rfl⟩
      obtain ⟨V2, hV2⟩ : ∃ V, V = V1.alloc (.cells #[.int .i64 (r0), .int .i64 (r1), .int .i64 (r2), .int .i64 (r3), .int .i64 (r4), .int .i64 (r5), .int .i64 (r6), .int .i64 (r7), .int .i64 (r8)] 44) := ⟨_, rfl⟩
      rw [← hV2, ← hbx]
      have nb : Below V1.heap.size V1 V2 := by rw [hV2]; exact new_after V1 (.cells #[.int .i64 (r0), .int .i64 (r1), .int .i64 (r2), .int .i64 (r3), .int .i64 (r4), .int .i64 (r5), .int .i64 (r6), .int .i64 (r7), .int .i64 (r8)] 44)
      have ltbx : pr < bx := by rw [hbx]; exact World.block_lt_of_cell? _ _ fr
      have xp0 := cell_after nb xp0
      have xp1 := cell_after nb xp1
      have xp2 := cell_after nb xp2
      have xp3 := cell_after nb xp3
      have xq0 := cell_after nb xq0
      have xq1 := cell_after nb xq1
      have xq2 := cell_after nb xq2
      have xq3 := cell_after nb xq3
      have xm0 := cell_after nb xm0
      have xm1 := cell_after nb xm1
      have xm2 := cell_after nb xm2
      have xm3 := cell_after nb xm3
      have xm4 := cell_after nb xm4
      have xm5 := cell_after nb xm5
      have xm6 := cell_after nb xm6
      have xm7 := cell_after nb xm7
      have xm8 := cell_after nb xm8
      have xa0 := cell_after nb xa0
      have xa1 := cell_after nb xa1
      have xa2 := cell_after nb xa2
      have fwf := frozen_after nb fw fwf
      have fw := cell_after nb fw
      have frf := frozen_after nb fr frf
      have fr := cell_after nb fr
      have m0 : V2.cell? ⟨bx, 0, none⟩ = some (.int .i64 (r0)) := by rw [hV2, hbx]; simp [go_sem]
      have m1 : V2.cell? ⟨bx, 1, none⟩ = some (.int .i64 (r1)) := by rw [hV2, hbx]; simp [go_sem]
      have m2 : V2.cell? ⟨bx, 2, none⟩ = some (.int .i64 (r2)) := by rw [hV2, hbx]; simp [go_sem]
      have m3 : V2.cell? ⟨bx, 3, none⟩ = some (.int .i64 (r3)) := by rw [hV2, hbx]; simp [go_sem]
      have m4 : V2.cell? ⟨bx, 4, none⟩ = some (.int .i64 (r4)) := by rw [hV2, hbx]; simp [go_sem]
      have m5 : V2.cell? ⟨bx, 5, none⟩ = some (.int .i64 (r5)) := by rw [hV2, hbx]; simp [go_sem]
      have m6 : V2.cell? ⟨bx, 6, none⟩ = some (.int .i64 (r6)) := by rw [hV2, hbx]; simp [go_sem]
      have m7 : V2.cell? ⟨bx, 7, none⟩ = some (.int .i64 (r7)) := by rw [hV2, hbx]; simp [go_sem]
      have m8 : V2.cell? ⟨bx, 8, none⟩ = some (.int .i64 (r8)) := by rw [hV2, hbx]; simp [go_sem]
      have HB : Hid _ := below_step' HB.out nb
      clear nb hV2 hbx
      go_wp2_with (fail)
      refine (rvrows_law pr 0 false a0_0 a0_1 a0_2 a0_3 _ fr frf).mono ?_
      rintro e V3 ⟨rfl, A⟩
      rw [← HGB.out] at A
      rw [← HR0.out, ← HR1.out, ← HR2.out, ← HR3.out, ← HR4.out, ← HR5.out, ← HR6.out, ← HR7.out, ← HR8.out]
      clear HGB HR0 HR1 HR2 HR3 HR4 HR5 HR6 HR7 HR8
      have xp0 := A.out.cellOf xp0 (by show pa ≠ pr; omega)
      have xp1 := A.out.cellOf xp1 (by show pa ≠ pr; omega)
      have xp2 := A.out.cellOf xp2 (by show pa ≠ pr; omega)
      have xp3 := A.out.cellOf xp3 (by show pa ≠ pr; omega)
      have xq0 := A.out.cellOf xq0 (by show pb ≠ pr; omega)
      have xq1 := A.out.cellOf xq1 (by show pb ≠ pr; omega)
      have xq2 := A.out.cellOf xq2 (by show pb ≠ pr; omega)
      have xq3 := A.out.cellOf xq3 (by show pb ≠ pr; omega)
      have xm0 := A.out.cellOf xm0 (by show pm ≠ pr; omega)
      have xm1 := A.out.cellOf xm1 (by show pm ≠ pr; omega)
      have xm2 := A.out.cellOf xm2 (by show pm ≠ pr; omega)
      have xm3 := A.out.cellOf xm3 (by show pm ≠ pr; omega)
      have xm4 := A.out.cellOf xm4 (by show pm ≠ pr; omega)
      have xm5 := A.out.cellOf xm5 (by show pm ≠ pr; omega)
      have xm6 := A.out.cellOf xm6 (by show pm ≠ pr; omega)
      have xm7 := A.out.cellOf xm7 (by show pm ≠ pr; omega)
      have xm8 := A.out.cellOf xm8 (by show pm ≠ pr; omega)
      have xa0 := A.out.cellOf xa0 (by show pc ≠ pr; omega)
      have xa1 := A.out.cellOf xa1 (by show pc ≠ pr; omega)
      have xa2 := A.out.cellOf xa2 (by show pc ≠ pr; omega)
      have fwf := A.out.frozenOf fw fwf (by show pw ≠ pr; omega)
      have fw := A.out.cellOf fw (by show pw ≠ pr; omega)
      have m0 := A.out.cellOf m0 (by show bx ≠ pr; omega)
      have m1 := A.out.cellOf m1 (by show bx ≠ pr; omega)
      have m2 := A.out.cellOf m2 (by show bx ≠ pr; omega)
      have m3 := A.out.cellOf m3 (by show bx ≠ pr; omega)
      have m4 := A.out.cellOf m4 (by show bx ≠ pr; omega)
      have m5 := A.out.cellOf m5 (by show bx ≠ pr; omega)
      have m6 := A.out.cellOf m6 (by show bx ≠ pr; omega)
      have m7 := A.out.cellOf m7 (by show bx ≠ pr; omega)
      have m8 := A.out.cellOf m8 (by show bx ≠ pr; omega)
      have fr := A.out.cell
      have frf := A.out.frozen
      have HB : Hid _ := A.out.below _ _ HB.out (by show w.heap.size ≤ pr; omega) HB.out.size
      clear A
      go_upto_region 29 with fail
      obtain ⟨by_, hby_⟩ : ∃ p, p = V3.heap.size := ⟨_, rfl⟩
      obtain ⟨V4, hV4⟩ : ∃ V, V = V3.alloc (.cells #[.int .i64 (r0), .int .i64 (r1), .int .i64 (r2), .int .i64 (r3), .int .i64 (r4), .int .i64 (r5), .int .i64 (r6), .int .i64 (r7), .int .i64 (r8)] 44) := ⟨_, rfl⟩
      rw [← hV4, ← hby_]
      have nb : Below V3.heap.size V3 V4 := by rw [hV4]; exact new_after V3 (.cells #[.int .i64 (r0), .int .i64 (r1), .int .i64 (r2), .int .i64 (r3), .int .i64 (r4), .int .i64 (r5), .int .i64 (r6), .int .i64 (r7), .int .i64 (r8)] 44)
      have ltby_ : bx < by_ := by rw [hby_]; exact World.block_lt_of_cell? _ _ m8
      have xp0 := cell_after nb xp0
      have xp1 := cell_after nb xp1
      have xp2 := cell_after nb xp2
      have xp3 := cell_after nb xp3
      have xq0 := cell_after nb xq0
      have xq1 := cell_after nb xq1
      have xq2 := cell_after nb xq2
      have xq3 := cell_after nb xq3
      have xm0 := cell_after nb xm0
      have xm1 := cell_after nb xm1
      have xm2 := cell_after nb xm2
      have xm3 := cell_after nb xm3
      have xm4 := cell_after nb xm4
      have xm5 := cell_after nb xm5
      have xm6 := cell_after nb xm6
      have xm7 := cell_after nb xm7
      have xm8 := cell_after nb xm8
      have xa0 := cell_after nb xa0
      have xa1 := cell_after nb xa1
      have xa2 := cell_after nb xa2
      have fwf := frozen_after nb fw fwf
      have fw := cell_after nb fw
      have frf := frozen_after nb fr frf
      have fr := cell_after nb fr
      have m0 := cell_after nb m0
      have m1 := cell_after nb m1
      have m2 := cell_after nb m2
      have m3 := cell_after nb m3
      have m4 := cell_after nb m4
      have m5 := cell_after nb m5
      have m6 := cell_after nb m6
      have m7 := cell_after nb m7
      have m8 := cell_after nb m8
      have n0 : V4.cell? ⟨by_, 0, none⟩ = some (.int .i64 (r0)) := by rw [hV4, hby_]; simp [go_sem]
      have n1 : V4.cell? ⟨by_, 1, none⟩ = some (.int .i64 (r1)) := by rw [hV4, hby_]; simp [go_sem]
      have n2 : V4.cell? ⟨by_, 2, none⟩ = some (.int .i64 (r2)) := by rw [hV4, hby_]; simp [go_sem]
      have n3 : V4.cell? ⟨by_, 3, none⟩ = some (.int .i64 (r3)) := by rw [hV4, hby_]; simp [go_sem]
      have n4 : V4.cell? ⟨by_, 4, none⟩ = some (.int .i64 (r4)) := by rw [hV4, hby_]; simp [go_sem]
      have n5 : V4.cell? ⟨by_, 5, none⟩ = some (.int .i64 (r5)) := by rw [hV4, hby_]; simp [go_sem]
      have n6 : V4.cell? ⟨by_, 6, none⟩ = some (.int .i64 (r6)) := by rw [hV4, hby_]; simp [go_sem]
      have n7 : V4.cell? ⟨by_, 7, none⟩ = some (.int .i64 (r7)) := by rw [hV4, hby_]; simp [go_sem]
      have n8 : V4.cell? ⟨by_, 8, none⟩ = some (.int .i64 (r8)) := by rw [hV4, hby_]; simp [go_sem]
      have HB : Hid _ := below_step' HB.out nb
      clear nb hV4 hby_
      go_wp2_with (fail)
      refine (vback_law pw 0 gb a2_0 a2_1 a2_2 a2_3 a2_4 a2_5 a2_6 a2_7 a2_8 a3_0 a3_1 a3_2 _ fw fwf).mono ?_
      rintro e V5 ⟨v0, v1, v2, g, rfl, S1, A⟩
      have xp0 := A.out.cellOf xp0 (by show pa ≠ pw; omega)
      have xp1 := A.out.cellOf xp1 (by show pa ≠ pw; omega)
      have xp2 := A.out.cellOf xp2 (by show pa ≠ pw; omega)
      have xp3 := A.out.cellOf xp3 (by show pa ≠ pw; omega)
      have xq0 := A.out.cellOf xq0 (by show pb ≠ pw; omega)
      have xq1 := A.out.cellOf xq1 (by show pb ≠ pw; omega)
      have xq2 := A.out.cellOf xq2 (by show pb ≠ pw; omega)
      have xq3 := A.out.cellOf xq3 (by show pb ≠ pw; omega)
      have xm0 := A.out.cellOf xm0 (by show pm ≠ pw; omega)
      have xm1 := A.out.cellOf xm1 (by show pm ≠ pw; omega)
      have xm2 := A.out.cellOf xm2 (by show pm ≠ pw; omega)
      have xm3 := A.out.cellOf xm3 (by show pm ≠ pw; omega)
      have xm4 := A.out.cellOf xm4 (by show pm ≠ pw; omega)
      have xm5 := A.out.cellOf xm5 (by show pm ≠ pw; omega)
      have xm6 := A.out.cellOf xm6 (by show pm ≠ pw; omega)
      have xm7 := A.out.cellOf xm7 (by show pm ≠ pw; omega)
      have xm8 := A.out.cellOf xm8 (by show pm ≠ pw; omega)
      have xa0 := A.out.cellOf xa0 (by show pc ≠ pw; omega)
      have xa1 := A.out.cellOf xa1 (by show pc ≠ pw; omega)
      have xa2 := A.out.cellOf xa2 (by show pc ≠ pw; omega)
      have frf := A.out.frozenOf fr frf (by show pr ≠ pw; omega)
      have fr := A.out.cellOf fr (by show pr ≠ pw; omega)
      have m0 := A.out.cellOf m0 (by show bx ≠ pw; omega)
      have m1 := A.out.cellOf m1 (by show bx ≠ pw; omega)
      have m2 := A.out.cellOf m2 (by show bx ≠ pw; omega)
      have m3 := A.out.cellOf m3 (by show bx ≠ pw; omega)
      have m4 := A.out.cellOf m4 (by show bx ≠ pw; omega)
      have m5 := A.out.cellOf m5 (by show bx ≠ pw; omega)
      have m6 := A.out.cellOf m6 (by show bx ≠ pw; omega)
      have m7 := A.out.cellOf m7 (by show bx ≠ pw; omega)
      have m8 := A.out.cellOf m8 (by show bx ≠ pw; omega)
      have n0 := A.out.cellOf n0 (by show by_ ≠ pw; omega)
      have n1 := A.out.cellOf n1 (by show by_ ≠ pw; omega)
      have n2 := A.out.cellOf n2 (by show by_ ≠ pw; omega)
      have n3 := A.out.cellOf n3 (by show by_ ≠ pw; omega)
      have n4 := A.out.cellOf n4 (by show by_ ≠ pw; omega)
      have n5 := A.out.cellOf n5 (by show by_ ≠ pw; omega)
      have n6 := A.out.cellOf n6 (by show by_ ≠ pw; omega)
      have n7 := A.out.cellOf n7 (by show by_ ≠ pw; omega)
      have n8 := A.out.cellOf n8 (by show by_ ≠ pw; omega)
      have fw := A.out.cell
      have fwf := A.out.frozen
      have HB : Hid _ := A.out.below _ _ HB.out (by show w.heap.size ≤ pw; omega) HB.out.size
      clear A
      go_upto_region 30 with fail
      obtain ⟨bc, hbc⟩ : ∃ p, p = V5.heap.size := ⟨_, rfl⟩
      obtain ⟨V6, hV6⟩ : ∃ V, V = V5.alloc (.cells #[.int .i64 (v0), .int .i64 (v1), .int .i64 (v2)] 23) := ⟨_, rfl⟩
      rw [← hV6, ← hbc]
      have nb : Below V5.heap.size V5 V6 := by rw [hV6]; exact new_after V5 (.cells #[.int .i64 (v0), .int .i64 (v1), .int .i64 (v2)] 23)
      have ltbc : by_ < bc := by rw [hbc]; exact World.block_lt_of_cell? _ _ n8
      have xp0 := cell_after nb xp0
      have xp1 := cell_after nb xp1
      have xp2 := cell_after nb xp2
      have xp3 := cell_after nb xp3
      have xq0 := cell_after nb xq0
      have xq1 := cell_after nb xq1
      have xq2 := cell_after nb xq2
      have xq3 := cell_after nb xq3
      have xm0 := cell_after nb xm0
      have xm1 := cell_after nb xm1
      have xm2 := cell_after nb xm2
      have xm3 := cell_after nb xm3
      have xm4 := cell_after nb xm4
      have xm5 := cell_after nb xm5
      have xm6 := cell_after nb xm6
      have xm7 := cell_after nb xm7
      have xm8 := cell_after nb xm8
      have xa0 := cell_after nb xa0
      have xa1 := cell_after nb xa1
      have xa2 := cell_after nb xa2
      have fwf := frozen_after nb fw fwf
      have fw := cell_after nb fw
      have frf := frozen_after nb fr frf
      have fr := cell_after nb fr
      have m0 := cell_after nb m0
      have m1 := cell_after nb m1
      have m2 := cell_after nb m2
      have m3 := cell_after nb m3
      have m4 := cell_after nb m4
      have m5 := cell_after nb m5
      have m6 := cell_after nb m6
      have m7 := cell_after nb m7
      have m8 := cell_after nb m8
      have n0 := cell_after nb n0
      have n1 := cell_after nb n1
      have n2 := cell_after nb n2
      have n3 := cell_after nb n3
      have n4 := cell_after nb n4
      have n5 := cell_after nb n5
      have n6 := cell_after nb n6
      have n7 := cell_after nb n7
      have n8 := cell_after nb n8
      have c0 : V6.cell? ⟨bc, 0, none⟩ = some (.int .i64 (v0)) := by rw [hV6, hbc]; simp [go_sem]
      have c1 : V6.cell? ⟨bc, 1, none⟩ = some (.int .i64 (v1)) := by rw [hV6, hbc]; simp [go_sem]
      have c2 : V6.cell? ⟨bc, 2, none⟩ = some (.int .i64 (v2)) := by rw [hV6, hbc]; simp [go_sem]
      have HB : Hid _ := below_step' HB.out nb
      clear nb hV6 hbc
      go_wp2_with (fail)
      refine (rvback_law pr 0 gb a2_0 a2_1 a2_2 a2_3 a2_4 a2_5 a2_6 a2_7 a2_8 a3_0 a3_1 a3_2 _ fr frf).mono ?_
      rintro e V7 ⟨u0, u1, u2, h, rfl, S2, A⟩
      have xp0 := A.out.cellOf xp0 (by show pa ≠ pr; omega)
      have xp1 := A.out.cellOf xp1 (by show pa ≠ pr; omega)
      have xp2 := A.out.cellOf xp2 (by show pa ≠ pr; omega)
      have xp3 := A.out.cellOf xp3 (by show pa ≠ pr; omega)
      have xq0 := A.out.cellOf xq0 (by show pb ≠ pr; omega)
      have xq1 := A.out.cellOf xq1 (by show pb ≠ pr; omega)
      have xq2 := A.out.cellOf xq2 (by show pb ≠ pr; omega)
      have xq3 := A.out.cellOf xq3 (by show pb ≠ pr; omega)
      have xm0 := A.out.cellOf xm0 (by show pm ≠ pr; omega)
      have xm1 := A.out.cellOf xm1 (by show pm ≠ pr; omega)
      have xm2 := A.out.cellOf xm2 (by show pm ≠ pr; omega)
      have xm3 := A.out.cellOf xm3 (by show pm ≠ pr; omega)
      have xm4 := A.out.cellOf xm4 (by show pm ≠ pr; omega)
      have xm5 := A.out.cellOf xm5 (by show pm ≠ pr; omega)
      have xm6 := A.out.cellOf xm6 (by show pm ≠ pr; omega)
      have xm7 := A.out.cellOf xm7 (by show pm ≠ pr; omega)
      have xm8 := A.out.cellOf xm8 (by show pm ≠ pr; omega)
      have xa0 := A.out.cellOf xa0 (by show pc ≠ pr; omega)
      have xa1 := A.out.cellOf xa1 (by show pc ≠ pr; omega)
      have xa2 := A.out.cellOf xa2 (by show pc ≠ pr; omega)
      have fwf := A.out.frozenOf fw fwf (by show pw ≠ pr; omega)
      have fw := A.out.cellOf fw (by show pw ≠ pr; omega)
      have m0 := A.out.cellOf m0 (by show bx ≠ pr; omega)
      have m1 := A.out.cellOf m1 (by show bx ≠ pr; omega)
      have m2 := A.out.cellOf m2 (by show bx ≠ pr; omega)
      have m3 := A.out.cellOf m3 (by show bx ≠ pr; omega)
      have m4 := A.out.cellOf m4 (by show bx ≠ pr; omega)
      have m5 := A.out.cellOf m5 (by show bx ≠ pr; omega)
      have m6 := A.out.cellOf m6 (by show bx ≠ pr; omega)
      have m7 := A.out.cellOf m7 (by show bx ≠ pr; omega)
      have m8 := A.out.cellOf m8 (by show bx ≠ pr; omega)
      have n0 := A.out.cellOf n0 (by show by_ ≠ pr; omega)
      have n1 := A.out.cellOf n1 (by show by_ ≠ pr; omega)
      have n2 := A.out.cellOf n2 (by show by_ ≠ pr; omega)
      have n3 := A.out.cellOf n3 (by show by_ ≠ pr; omega)
      have n4 := A.out.cellOf n4 (by show by_ ≠ pr; omega)
      have n5 := A.out.cellOf n5 (by show by_ ≠ pr; omega)
      have n6 := A.out.cellOf n6 (by show by_ ≠ pr; omega)
      have n7 := A.out.cellOf n7 (by show by_ ≠ pr; omega)
      have n8 := A.out.cellOf n8 (by show by_ ≠ pr; omega)
      have c0 := A.out.cellOf c0 (by show bc ≠ pr; omega)
      have c1 := A.out.cellOf c1 (by show bc ≠ pr; omega)
      have c2 := A.out.cellOf c2 (by show bc ≠ pr; omega)
      have fr := A.out.cell
      have frf := A.out.frozen
      have HB : Hid _ := A.out.below _ _ HB.out (by show w.heap.size ≤ pr; omega) HB.out.size
      clear A
      obtain ⟨rfl, rfl, rfl, rfl⟩ := step3_same S1.out S2.out
      clear S1 S2
      go_upto_region 31 with fail
      obtain ⟨bd, hbd⟩ : ∃ p, p = V7.heap.size := ⟨_, rfl⟩
      obtain ⟨V8, hV8⟩ : ∃ V, V = V7.alloc (.cells #[.int .i64 (u0), .int .i64 (u1), .int .i64 (u2)] 23) := ⟨_, rfl⟩
      rw [← hV8, ← hbd]
      have nb : Below V7.heap.size V7 V8 := by rw [hV8]; exact new_after V7 (.cells #[.int .i64 (u0), .int .i64 (u1), .int .i64 (u2)] 23)
      have ltbd : bc < bd := by rw [hbd]; exact World.block_lt_of_cell? _ _ c2
      have xp0 := cell_after nb xp0
      have xp1 := cell_after nb xp1
      have xp2 := cell_after nb xp2
      have xp3 := cell_after nb xp3
      have xq0 := cell_after nb xq0
      have xq1 := cell_after nb xq1
      have xq2 := cell_after nb xq2
      have xq3 := cell_after nb xq3
      have xm0 := cell_after nb xm0
      have xm1 := cell_after nb xm1
      have xm2 := cell_after nb xm2
      have xm3 := cell_after nb xm3
      have xm4 := cell_after nb xm4
      have xm5 := cell_after nb xm5
      have xm6 := cell_after nb xm6
      have xm7 := cell_after nb xm7
      have xm8 := cell_after nb xm8
      have xa0 := cell_after nb xa0
      have xa1 := cell_after nb xa1
      have xa2 := cell_after nb xa2
      have fwf := frozen_after nb fw fwf
      have fw := cell_after nb fw
      have frf := frozen_after nb fr frf
      have fr := cell_after nb fr
      have m0 := cell_after nb m0
      have m1 := cell_after nb m1
      have m2 := cell_after nb m2
      have m3 := cell_after nb m3
      have m4 := cell_after nb m4
      have m5 := cell_after nb m5
      have m6 := cell_after nb m6
      have m7 := cell_after nb m7
      have m8 := cell_after nb m8
      have n0 := cell_after nb n0
      have n1 := cell_after nb n1
      have n2 := cell_after nb n2
      have n3 := cell_after nb n3
      have n4 := cell_after nb n4
      have n5 := cell_after nb n5
      have n6 := cell_after nb n6
      have n7 := cell_after nb n7
      have n8 := cell_after nb n8
      have c0 := cell_after nb c0
      have c1 := cell_after nb c1
      have c2 := cell_after nb c2
      have d0 : V8.cell? ⟨bd, 0, none⟩ = some (.int .i64 (u0)) := by rw [hV8, hbd]; simp [go_sem]
      have d1 : V8.cell? ⟨bd, 1, none⟩ = some (.int .i64 (u1)) := by rw [hV8, hbd]; simp [go_sem]
      have d2 : V8.cell? ⟨bd, 2, none⟩ = some (.int .i64 (u2)) := by rw [hV8, hbd]; simp [go_sem]
      have HB : Hid _ := below_step' HB.out nb
      clear nb hV8 hbd
      go_quiet (fail)
      go_wp2_with (fail)
      go_ret
      exact ⟨rfl, HB.out.trans ⟨rfl, rfl, rfl, Nat.le_refl _, fun _ _ => rfl⟩⟩

/-! ### The row's step, after the guide's template -/
set_option maxRecDepth 100000 in
theorem lifted (os : Os) (started : os.Started) (H : Type) (enc : TypeId × Value → H) :
    ReturnsInHanded {} Try.checked os 4 .any (Rows.vecTurnsSpec.pre6 enc Try.prog Try.f4 Rows.vecTurnsRow.domain false) (Rows.vecTurnsSpec.post enc Try.prog Try.f4 false true false false) := by
  refine returnsInHanded_of_change (C := Try.checked) own started (by kernel_rfl) Try.func4
    (ChangeSpec.witness6 (enc := enc) (C := Try.checked) false ⟨#[], #[.agg #[.int .i64 0, .int .i64 0, .int .i64 0, .int .i64 0], .agg #[.int .i64 0, .int .i64 0, .int .i64 0, .int .i64 0], .agg #[.int .i64 0, .int .i64 0, .int .i64 0, .int .i64 0, .int .i64 0, .int .i64 0, .int .i64 0, .int .i64 0, .int .i64 0], .agg #[.int .i64 0, .int .i64 0, .int .i64 0]], []⟩ 8 (by kernel_rfl) (by kernel_rfl) (by kernel_rfl) (by kernel_rfl)) ?_
  intro W base args ds gs before hval0 hW hcnd _
  have hval : ∀ (j : Nat) t v, Try.f4.params[j]? = some t → args[j]? = some v → Value.okWide Try.prog W .any base t v := hval0
  have hW' := hW
  obtain ⟨p, q, hA0, hV, rfl, hfz, hnd⟩ := hW
  have hA : DataW.TrodAll enc Try.prog W 0 (fun _ => true) true Try.f4.params.toList args.toList ds p := hA0
  rw [Try.params4] at hA hval
  obtain ⟨v0, vs0, d0, ds0, p0, q0, hargs, rfl, rfl, h0, r0⟩ := trodAll_cons hA
  obtain ⟨v1, vs1, d1, ds1, p1, q1, rfl, rfl, rfl, h1, r1⟩ := trodAll_cons r0
  obtain ⟨v2, vs2, d2, ds2, p2, q2, rfl, rfl, rfl, h2, r2⟩ := trodAll_cons r1
  obtain ⟨v3, vs3, d3, ds3, p3, q3, rfl, rfl, rfl, h3, r3⟩ := trodAll_cons r2
  obtain ⟨rfl, rfl, rfl⟩ := trodAll_nil r3
  obtain rfl : args = #[v0, v1, v2, v3] := by cases args; simp_all
  obtain ⟨rfl, rfl⟩ := trodVars_none hV
  obtain ⟨a0_0, a0_1, a0_2, a0_3, rfl, rfl, rfl, w0_0, w0_1, w0_2, w0_3⟩ := open_quat (hval 0 42 v0 rfl rfl) h0
  obtain ⟨a1_0, a1_1, a1_2, a1_3, rfl, rfl, rfl, w1_0, w1_1, w1_2, w1_3⟩ := open_quat (hval 1 42 v1 rfl rfl) h1
  obtain ⟨a2_0, a2_1, a2_2, a2_3, a2_4, a2_5, a2_6, a2_7, a2_8, rfl, rfl, w2_0, w2_1, w2_2, w2_3, w2_4, w2_5, w2_6, w2_7, w2_8⟩ := open_mat h2
  have lt2 : ∀ x ∈ ([] : List MemPlace), x.block < W.heap.size := fun _ h => by cases h
  obtain ⟨a3_0, a3_1, a3_2, rfl, rfl, rfl, w3_0, w3_1, w3_2⟩ := open_vec (hval 3 23 v3 rfl rfl) h3
  clear hA0 hval0
  simp only [List.append_nil] at hW'
  refine (walk a0_0 a0_1 a0_2 a0_3 a1_0 a1_1 a1_2 a1_3 a2_0 a2_1 a2_2 a2_3 a2_4 a2_5 a2_6 a2_7 a2_8 a3_0 a3_1 a3_2 w0_0 w0_1 w0_2 w0_3 w1_0 w1_1 w1_2 w1_3 w2_0 w2_1 w2_2 w2_3 w2_4 w2_5 w2_6 w2_7 w2_8 w3_0 w3_1 w3_2 W).mono fun e W' ⟨he, bel⟩ => ?_
  subst he
  exact ⟨_, rfl, _, _, _, [], [], [], hW', trodAll_mk1 (shut_bool Try.underlying4 _), (trodAll_cons_mk (shut_quat w0_0 w0_1 w0_2 w0_3) (trodAll_cons_mk (shut_quat w1_0 w1_1 w1_2 w1_3) (trodAll_cons_mk (Below.trod laidOut (by kernel_rfl) (of_decide_eq_true (by kernel_rfl)) h2 bel lt2) (trodAll_cons_mk (shut_vec w3_0 w3_1 w3_2) trodAll_mk0)))), rfl, bel.frame _, fun h => by cases h⟩

theorem over : Rows.vecTurnsRow.holds Try.pinned (OpenSpec.ofChange Rows.vecTurnsSpec) :=
  OpenClaim.holds_of_wide 4 Try.f4 rfl rfl rfl rfl rfl rfl rfl ⟨rfl, rfl, rfl, rfl, rfl⟩ rfl rfl rfl rfl rfl (by kernel_rfl) Try.func4 (by kernel_rfl)
    (of_decide_eq_true (by kernel_rfl)) (by unfold Func.isWrapper; first | (rw [if_pos (by decide +kernel)]; kernel_rfl) | (rw [if_neg (by decide +kernel)]; exact ⟨rfl, rfl⟩))
    (fun os started H enc _ => lifted os started H enc)

end vecTurns

theorem vecTurns_holds : Rows.VecTurnsSaid := vecTurns.over
#print axioms vecTurns_holds
end Go.Proofs.Ytioailboehpcaaa
