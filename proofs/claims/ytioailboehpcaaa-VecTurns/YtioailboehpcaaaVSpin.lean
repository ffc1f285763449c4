/- Package vec's turning on. -/
import Derived.Test.YtioailboehpcaaaVTimes
import Derived.Test.YtioailboehpcaaaRTurnC
namespace Go.Proofs.Ytioailboehpcaaa
open Go.RowKit Ref Fx
set_option linter.unusedVariables false

theorem vspin_chain {f g1 g2 : Bool} {q0 q1 q2 q3 h0 h1 h2 t0 t1 t2 t3 v0 v1 v2 v3 : Int} (a : t0 = cond (timesBad 4294967296 h0 h1 h2 q0 q1 q2 q3) 0 (timesAt0 4294967296 h0 h1 h2 q0 q1 q2 q3) ∧ t1 = cond (timesBad 4294967296 h0 h1 h2 q0 q1 q2 q3) 0 (timesAt1 4294967296 h0 h1 h2 q0 q1 q2 q3) ∧ t2 = cond (timesBad 4294967296 h0 h1 h2 q0 q1 q2 q3) 0 (timesAt2 4294967296 h0 h1 h2 q0 q1 q2 q3) ∧ t3 = cond (timesBad 4294967296 h0 h1 h2 q0 q1 q2 q3) 0 (timesAt3 4294967296 h0 h1 h2 q0 q1 q2 q3) ∧ g1 = (f || timesBad 4294967296 h0 h1 h2 q0 q1 q2 q3))
    (c : v0 = cond (wholeBad t0 t1 t2 t3) 0 ((ratio t0 4294967296 ((norm [t0, t1, t2, t3]).getD 0)).getD 0) ∧ v1 = cond (wholeBad t0 t1 t2 t3) 0 ((ratio t1 4294967296 ((norm [t0, t1, t2, t3]).getD 0)).getD 0) ∧ v2 = cond (wholeBad t0 t1 t2 t3) 0 ((ratio t2 4294967296 ((norm [t0, t1, t2, t3]).getD 0)).getD 0) ∧ v3 = cond (wholeBad t0 t1 t2 t3) 0 ((ratio t3 4294967296 ((norm [t0, t1, t2, t3]).getD 0)).getD 0) ∧ g2 = (g1 || wholeBad t0 t1 t2 t3)) :
    v0 = spinAt0 q0 q1 q2 q3 h0 h1 h2 ∧ v1 = spinAt1 q0 q1 q2 q3 h0 h1 h2 ∧ v2 = spinAt2 q0 q1 q2 q3 h0 h1 h2 ∧ v3 = spinAt3 q0 q1 q2 q3 h0 h1 h2 ∧ g2 = (f || spinBad q0 q1 q2 q3 h0 h1 h2) := by
  obtain ⟨rfl, rfl, rfl, rfl, rfl⟩ := a
  obtain ⟨rfl, rfl, rfl, rfl, rfl⟩ := c
  refine ⟨rfl, rfl, rfl, rfl, ?_⟩
  cases hb : timesBad 4294967296 h0 h1 h2 q0 q1 q2 q3 with
  | true => rw [spin_bad hb]; simp
  | false => unfold spinBad; rw [hb]; simp
set_option maxRecDepth 100000 in
set_option maxHeartbeats 4000000 in
theorem vspin_law (b off : Nat) (f : Bool) (q0 q1 q2 q3 h0 h1 h2 : Int) (W : World) (hc : W.cell? ⟨b, off, none⟩ = some (.bool f)) (hf : W.frozen? ⟨b, off, none⟩ = false) :
    Calls Try.prog 24 #[.pointer (some ⟨b, off, none⟩), .agg #[.int .i64 (q0), .int .i64 (q1), .int .i64 (q2), .int .i64 (q3)], .agg #[.int .i64 (h0), .int .i64 (h1), .int .i64 (h2)]] W fun e W' => ∃ v0 v1 v2 v3 g, e = .returned (.agg #[.int .i64 (v0), .int .i64 (v1), .int .i64 (v2), .int .i64 (v3)]) ∧ Hid (v0 = spinAt0 q0 q1 q2 q3 h0 h1 h2 ∧ v1 = spinAt1 q0 q1 q2 q3 h0 h1 h2 ∧ v2 = spinAt2 q0 q1 q2 q3 h0 h1 h2 ∧ v3 = spinAt3 q0 q1 q2 q3 h0 h1 h2 ∧ g = (f || spinBad q0 q1 q2 q3 h0 h1 h2)) ∧ Hid (After ⟨b, off, none⟩ g W W') := by
  have hbW : b < W.heap.size := World.block_lt_of_cell? _ _ hc
  obtain ⟨U, hU⟩ : ∃ U, U = (((W.alloc (.cells #[.int .i64 (q0), .int .i64 (q1), .int .i64 (q2), .int .i64 (q3)] 42)).alloc (.cells #[.int .i64 (h0), .int .i64 (h1), .int .i64 (h2)] 23)).alloc (.cells #[.int .i64 0, .int .i64 0, .int .i64 0, .int .i64 0] 42)) := ⟨_, rfl⟩
  obtain ⟨pr, hpr⟩ : ∃ p, p = W.heap.size + 1 + 1 := ⟨_, rfl⟩
  have HL : Hid (Leaves ⟨b, off, none⟩ W U) := by show Leaves _ _ _; rw [hU]; exact (((Leaves.refl _ _).alloc _).alloc _).alloc _
  have hp : U.cell? ⟨b, off, none⟩ = some (.bool f) := by rw [hU, World.cell?_alloc_past _ _ _ (by simp; omega), World.cell?_alloc_past _ _ _ (by simp; omega), World.cell?_alloc_past _ _ _ hbW]; exact hc
  have hpf : U.frozen? ⟨b, off, none⟩ = false := by rw [hU, ((new_after _ _).frozen (by simp; omega)), ((new_after _ _).frozen (by simp; omega)), ((new_after _ _).frozen hbW)]; exact hf
  have rr0 : U.cell? ⟨pr, 0, none⟩ = some (.int .i64 0) := by rw [hU, hpr]; simp [go_sem]
  have rf0 : U.frozen? ⟨pr, 0, none⟩ = false := by rw [hU, hpr]; simp [go_sem]
  have rr1 : U.cell? ⟨pr, 1, none⟩ = some (.int .i64 0) := by rw [hU, hpr]; simp [go_sem]
  have rf1 : U.frozen? ⟨pr, 1, none⟩ = false := by rw [hU, hpr]; simp [go_sem]
  have rr2 : U.cell? ⟨pr, 2, none⟩ = some (.int .i64 0) := by rw [hU, hpr]; simp [go_sem]
  have rf2 : U.frozen? ⟨pr, 2, none⟩ = false := by rw [hU, hpr]; simp [go_sem]
  have rr3 : U.cell? ⟨pr, 3, none⟩ = some (.int .i64 0) := by rw [hU, hpr]; simp [go_sem]
  have rf3 : U.frozen? ⟨pr, 3, none⟩ = false := by rw [hU, hpr]; simp [go_sem]
  have ka0 : U.cell? ⟨W.heap.size, 0, none⟩ = some (.int .i64 (q0)) := by rw [hU]; simp [go_sem]
  have ka1 : U.cell? ⟨W.heap.size, 1, none⟩ = some (.int .i64 (q1)) := by rw [hU]; simp [go_sem]
  have ka2 : U.cell? ⟨W.heap.size, 2, none⟩ = some (.int .i64 (q2)) := by rw [hU]; simp [go_sem]
  have ka3 : U.cell? ⟨W.heap.size, 3, none⟩ = some (.int .i64 (q3)) := by rw [hU]; simp [go_sem]
  have kb0 : U.cell? ⟨W.heap.size + 1, 0, none⟩ = some (.int .i64 (h0)) := by rw [hU]; simp [go_sem]
  have kb1 : U.cell? ⟨W.heap.size + 1, 1, none⟩ = some (.int .i64 (h1)) := by rw [hU]; simp [go_sem]
  have kb2 : U.cell? ⟨W.heap.size + 1, 2, none⟩ = some (.int .i64 (h2)) := by rw [hU]; simp [go_sem]
  go_enter Try.func24, Try.ntmps24
  go_upto_region 1 with fail
  rw [← hU]
  rw [← hpr]
  obtain ⟨pa, hpa⟩ : ∃ p, p = W.heap.size := ⟨_, rfl⟩
  obtain ⟨pb, hpb⟩ : ∃ p, p = W.heap.size + 1 := ⟨_, rfl⟩
  rw [← hpb] at kb0 kb1 kb2
  rw [← hpa] at ka0 ka1 ka2 ka3
  rw [← hpb, ← hpa]
  have n1 : b ≠ pr := by omega
  have n2 : pr ≠ b := by omega
  have hWr : W.heap.size ≤ pr := by omega
  clear hU hc hf hpa hpb hpr
  go_wp2_with (fail)
  refine (vtimes_law b off f 4294967296 h0 h1 h2 q0 q1 q2 q3 _ hp hpf).mono ?_
  rintro e W1 ⟨t0, t1, t2, t3, g1, rfl, S1, A⟩
  have rf0 := A.out.frozenOf rr0 rf0 (by show pr ≠ b; omega)
  have rr0 := A.out.cellOf rr0 (by show pr ≠ b; omega)
  have rf1 := A.out.frozenOf rr1 rf1 (by show pr ≠ b; omega)
  have rr1 := A.out.cellOf rr1 (by show pr ≠ b; omega)
  have rf2 := A.out.frozenOf rr2 rf2 (by show pr ≠ b; omega)
  have rr2 := A.out.cellOf rr2 (by show pr ≠ b; omega)
  have rf3 := A.out.frozenOf rr3 rf3 (by show pr ≠ b; omega)
  have rr3 := A.out.cellOf rr3 (by show pr ≠ b; omega)
  have HL : Hid _ := HL.out.same A.out
  have hp := A.out.cell
  have hpf := A.out.frozen
  clear A
  go_wp2_with (fail)
  refine (vwhole_law b off g1 t0 t1 t2 t3 _ hp hpf).mono ?_
  rintro e W2 ⟨v0, v1, v2, v3, g2, rfl, S2, A⟩
  have rf0 := A.out.frozenOf rr0 rf0 (by show pr ≠ b; omega)
  have rr0 := A.out.cellOf rr0 (by show pr ≠ b; omega)
  have rf1 := A.out.frozenOf rr1 rf1 (by show pr ≠ b; omega)
  have rr1 := A.out.cellOf rr1 (by show pr ≠ b; omega)
  have rf2 := A.out.frozenOf rr2 rf2 (by show pr ≠ b; omega)
  have rr2 := A.out.cellOf rr2 (by show pr ≠ b; omega)
  have rf3 := A.out.frozenOf rr3 rf3 (by show pr ≠ b; omega)
  have rr3 := A.out.cellOf rr3 (by show pr ≠ b; omega)
  have HL : Hid _ := HL.out.same A.out
  have hp := A.out.cell
  have hpf := A.out.frozen
  clear A
  have HS : Hid _ := vspin_chain S1.out S2.out
  clear S1 S2
  go_wp2_with (fail)
  refine bodyPost_ret (by simp [results, Try.results24, go_sem, rr0, rr1, rr2, rr3]; try rfl) rfl ?_
  refine ⟨v0, v1, v2, v3, g2, rfl, HS.out, ((((HL.out.set hWr _).set hWr _).set hWr _).set hWr _).done ?_ ?_⟩
  · simp [go_sem, hp]
  · simp [go_sem, hpf]

end Go.Proofs.Ytioailboehpcaaa
