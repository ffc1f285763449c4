/- The reference's turning back, and its turning on. -/
import Derived.Test.YtioailboehpcaaaRTurnB
import Derived.Deep.CutBlock
namespace Go.Proofs.Ytioailboehpcaaa
open Go.RowKit Ref Fx
set_option linter.unusedVariables false

theorem far1 {V : World} {p i : Nat} {u : Value} {q : Addr} (h : q.block ≠ p) : (V.setCell ⟨p, i, none⟩ u).cell? q = V.cell? q := World.cell?_of_block (w := V) (Below.heap_setCell V ⟨p, i, none⟩ u q.block h)
set_option maxRecDepth 100000 in
set_option maxHeartbeats 4000000 in
theorem rvback_law (b off : Nat) (f : Bool) (m0 m1 m2 m3 m4 m5 m6 m7 m8 x0 x1 x2 : Int) (W : World) (hc : W.cell? ⟨b, off, none⟩ = some (.bool f)) (hf : W.frozen? ⟨b, off, none⟩ = false) :
    Calls Try.prog 31 #[.pointer (some ⟨b, off, none⟩), .agg #[.int .i64 (m0), .int .i64 (m1), .int .i64 (m2), .int .i64 (m3), .int .i64 (m4), .int .i64 (m5), .int .i64 (m6), .int .i64 (m7), .int .i64 (m8)], .agg #[.int .i64 (x0), .int .i64 (x1), .int .i64 (x2)]] W fun e W' => ∃ v0 v1 v2 g, e = .returned (.agg #[.int .i64 (v0), .int .i64 (v1), .int .i64 (v2)]) ∧ Hid (Step3 f (dot [m0, m3, m6] [x0, x1, x2]) (dot [m1, m4, m7] [x0, x1, x2]) (dot [m2, m5, m8] [x0, x1, x2]) v0 v1 v2 g) ∧ Hid (After ⟨b, off, none⟩ g W W') := by
  have hbW : b < W.heap.size := World.block_lt_of_cell? _ _ hc
  have HC : Hid _ := hc
  have HF : Hid _ := hf
  clear hc hf
  go_enter Try.func31, Try.ntmps31
  go_wp2_with (fail)
  obtain ⟨U, hU⟩ : ∃ U, U = ((((W.alloc (.cells #[.int .i64 (m0), .int .i64 (m1), .int .i64 (m2), .int .i64 (m3), .int .i64 (m4), .int .i64 (m5), .int .i64 (m6), .int .i64 (m7), .int .i64 (m8)] 44)).alloc (.cells #[.int .i64 (x0), .int .i64 (x1), .int .i64 (x2)] 23)).alloc (.cells #[.int .i64 0, .int .i64 0, .int .i64 0] 23)).alloc (.cells #[.int .i64 (m0), .int .i64 (m3), .int .i64 (m6), .int .i64 (m1), .int .i64 (m4), .int .i64 (m7), .int .i64 (m2), .int .i64 (m5), .int .i64 (m8)] 44)) := ⟨_, rfl⟩
  have HL : Hid (Leaves ⟨b, off, none⟩ W U) := by show Leaves _ _ _; rw [hU]; exact (((((Leaves.refl _ _).alloc _).alloc _).alloc _).alloc _)
  have hp : U.cell? ⟨b, off, none⟩ = some (.bool f) := by
    rw [hU]
    rw [World.cell?_alloc_past _ _ _ (by simp; omega), World.cell?_alloc_past _ _ _ (by simp; omega), World.cell?_alloc_past _ _ _ (by simp; omega), World.cell?_alloc_past _ _ _ hbW]; exact HC.out
  have hpf : U.frozen? ⟨b, off, none⟩ = false := by
    rw [hU]
    rw [((new_after _ _).frozen (by simp; omega)), ((new_after _ _).frozen (by simp; omega)), ((new_after _ _).frozen (by simp; omega)), ((new_after _ _).frozen hbW)]; exact HF.out
  obtain ⟨pr, hpr⟩ : ∃ p, p = W.heap.size + 1 + 1 := ⟨_, rfl⟩
  have rr0 : U.cell? ⟨pr, 0, none⟩ = some (.int .i64 0) := by
    rw [hU, hpr]
    simp [go_sem]
  have rf0 : U.frozen? ⟨pr, 0, none⟩ = false := by
    rw [hU, hpr]
    simp [go_sem]
  have rr1 : U.cell? ⟨pr, 1, none⟩ = some (.int .i64 0) := by
    rw [hU, hpr]
    simp [go_sem]
  have rf1 : U.frozen? ⟨pr, 1, none⟩ = false := by
    rw [hU, hpr]
    simp [go_sem]
  have rr2 : U.cell? ⟨pr, 2, none⟩ = some (.int .i64 0) := by
    rw [hU, hpr]
    simp [go_sem]
  have rf2 : U.frozen? ⟨pr, 2, none⟩ = false := by
    rw [hU, hpr]
    simp [go_sem]
  rw [← hU]
  have hbr : b < pr := by omega
  have hWr : W.heap.size ≤ pr := by omega
  rw [← hpr]
  clear hU HC HF hpr
  refine (rvturn_law b off f m0 m3 m6 m1 m4 m7 m2 m5 m8 x0 x1 x2 U hp hpf).mono ?_
  rintro e V9 ⟨v0, v1, v2, g, rfl, S, A⟩
  have rf0 := A.out.frozenOf rr0 rf0 (by show pr ≠ b; omega)
  have rr0 := A.out.cellOf rr0 (by show pr ≠ b; omega)
  have rf1 := A.out.frozenOf rr1 rf1 (by show pr ≠ b; omega)
  have rr1 := A.out.cellOf rr1 (by show pr ≠ b; omega)
  have rf2 := A.out.frozenOf rr2 rf2 (by show pr ≠ b; omega)
  have rr2 := A.out.cellOf rr2 (by show pr ≠ b; omega)
  have HL2 : Hid (Leaves ⟨b, off, none⟩ W V9) := HL.out.same A.out
  have hp := A.out.cell
  have hpf := A.out.frozen
  have n1 : b ≠ pr := by omega
  have n2 : pr ≠ b := by omega
  clear A HL
  go_wp2_with (fail)
  refine bodyPost_ret (by simp [results, Try.results31, go_sem, rr0, rr1, rr2]; try rfl) rfl ?_
  refine ⟨v0, v1, v2, g, rfl, S, (((HL2.out.set hWr _).set hWr _).set hWr _).done ?_ ?_⟩
  · simp [go_sem, hp]
  · simp [go_sem, hpf]

def spinAt0 (q0 q1 q2 q3 h0 h1 h2 : Int) : Int := cond (wholeBad (cond (timesBad 4294967296 h0 h1 h2 q0 q1 q2 q3) 0 (timesAt0 4294967296 h0 h1 h2 q0 q1 q2 q3)) (cond (timesBad 4294967296 h0 h1 h2 q0 q1 q2 q3) 0 (timesAt1 4294967296 h0 h1 h2 q0 q1 q2 q3)) (cond (timesBad 4294967296 h0 h1 h2 q0 q1 q2 q3) 0 (timesAt2 4294967296 h0 h1 h2 q0 q1 q2 q3)) (cond (timesBad 4294967296 h0 h1 h2 q0 q1 q2 q3) 0 (timesAt3 4294967296 h0 h1 h2 q0 q1 q2 q3))) 0 ((ratio (cond (timesBad 4294967296 h0 h1 h2 q0 q1 q2 q3) 0 (timesAt0 4294967296 h0 h1 h2 q0 q1 q2 q3)) 4294967296 ((norm [(cond (timesBad 4294967296 h0 h1 h2 q0 q1 q2 q3) 0 (timesAt0 4294967296 h0 h1 h2 q0 q1 q2 q3)), (cond (timesBad 4294967296 h0 h1 h2 q0 q1 q2 q3) 0 (timesAt1 4294967296 h0 h1 h2 q0 q1 q2 q3)), (cond (timesBad 4294967296 h0 h1 h2 q0 q1 q2 q3) 0 (timesAt2 4294967296 h0 h1 h2 q0 q1 q2 q3)), (cond (timesBad 4294967296 h0 h1 h2 q0 q1 q2 q3) 0 (timesAt3 4294967296 h0 h1 h2 q0 q1 q2 q3))]).getD 0)).getD 0)
def spinAt1 (q0 q1 q2 q3 h0 h1 h2 : Int) : Int := cond (wholeBad (cond (timesBad 4294967296 h0 h1 h2 q0 q1 q2 q3) 0 (timesAt0 4294967296 h0 h1 h2 q0 q1 q2 q3)) (cond (timesBad 4294967296 h0 h1 h2 q0 q1 q2 q3) 0 (timesAt1 4294967296 h0 h1 h2 q0 q1 q2 q3)) (cond (timesBad 4294967296 h0 h1 h2 q0 q1 q2 q3) 0 (timesAt2 4294967296 h0 h1 h2 q0 q1 q2 q3)) (cond (timesBad 4294967296 h0 h1 h2 q0 q1 q2 q3) 0 (timesAt3 4294967296 h0 h1 h2 q0 q1 q2 q3))) 0 ((ratio (cond (timesBad 4294967296 h0 h1 h2 q0 q1 q2 q3) 0 (timesAt1 4294967296 h0 h1 h2 q0 q1 q2 q3)) 4294967296 ((norm [(cond (timesBad 4294967296 h0 h1 h2 q0 q1 q2 q3) 0 (timesAt0 4294967296 h0 h1 h2 q0 q1 q2 q3)), (cond (timesBad 4294967296 h0 h1 h2 q0 q1 q2 q3) 0 (timesAt1 4294967296 h0 h1 h2 q0 q1 q2 q3)), (cond (timesBad 4294967296 h0 h1 h2 q0 q1 q2 q3) 0 (timesAt2 4294967296 h0 h1 h2 q0 q1 q2 q3)), (cond (timesBad 4294967296 h0 h1 h2 q0 q1 q2 q3) 0 (timesAt3 4294967296 h0 h1 h2 q0 q1 q2 q3))]).getD 0)).getD 0)
def spinAt2 (q0 q1 q2 q3 h0 h1 h2 : Int) : Int := cond (wholeBad (cond (timesBad 4294967296 h0 h1 h2 q0 q1 q2 q3) 0 (timesAt0 4294967296 h0 h1 h2 q0 q1 q2 q3)) (cond (timesBad 4294967296 h0 h1 h2 q0 q1 q2 q3) 0 (timesAt1 4294967296 h0 h1 h2 q0 q1 q2 q3)) (cond (timesBad 4294967296 h0 h1 h2 q0 q1 q2 q3) 0 (timesAt2 4294967296 h0 h1 h2 q0 q1 q2 q3)) (cond (timesBad 4294967296 h0 h1 h2 q0 q1 q2 q3) 0 (timesAt3 4294967296 h0 h1 h2 q0 q1 q2 q3))) 0 ((ratio (cond (timesBad 4294967296 h0 h1 h2 q0 q1 q2 q3) 0 (timesAt2 4294967296 h0 h1 h2 q0 q1 q2 q3)) 4294967296 ((norm [(cond (timesBad 4294967296 h0 h1 h2 q0 q1 q2 q3) 0 (timesAt0 4294967296 h0 h1 h2 q0 q1 q2 q3)), (cond (timesBad 4294967296 h0 h1 h2 q0 q1 q2 q3) 0 (timesAt1 4294967296 h0 h1 h2 q0 q1 q2 q3)), (cond (timesBad 4294967296 h0 h1 h2 q0 q1 q2 q3) 0 (timesAt2 4294967296 h0 h1 h2 q0 q1 q2 q3)), (cond (timesBad 4294967296 h0 h1 h2 q0 q1 q2 q3) 0 (timesAt3 4294967296 h0 h1 h2 q0 q1 q2 q3))]).getD 0)).getD 0)
def spinAt3 (q0 q1 q2 q3 h0 h1 h2 : Int) : Int := cond (wholeBad (cond (timesBad 4294967296 h0 h1 h2 q0 q1 q2 q3) 0 (timesAt0 4294967296 h0 h1 h2 q0 q1 q2 q3)) (cond (timesBad 4294967296 h0 h1 h2 q0 q1 q2 q3) 0 (timesAt1 4294967296 h0 h1 h2 q0 q1 q2 q3)) (cond (timesBad 4294967296 h0 h1 h2 q0 q1 q2 q3) 0 (timesAt2 4294967296 h0 h1 h2 q0 q1 q2 q3)) (cond (timesBad 4294967296 h0 h1 h2 q0 q1 q2 q3) 0 (timesAt3 4294967296 h0 h1 h2 q0 q1 q2 q3))) 0 ((ratio (cond (timesBad 4294967296 h0 h1 h2 q0 q1 q2 q3) 0 (timesAt3 4294967296 h0 h1 h2 q0 q1 q2 q3)) 4294967296 ((norm [(cond (timesBad 4294967296 h0 h1 h2 q0 q1 q2 q3) 0 (timesAt0 4294967296 h0 h1 h2 q0 q1 q2 q3)), (cond (timesBad 4294967296 h0 h1 h2 q0 q1 q2 q3) 0 (timesAt1 4294967296 h0 h1 h2 q0 q1 q2 q3)), (cond (timesBad 4294967296 h0 h1 h2 q0 q1 q2 q3) 0 (timesAt2 4294967296 h0 h1 h2 q0 q1 q2 q3)), (cond (timesBad 4294967296 h0 h1 h2 q0 q1 q2 q3) 0 (timesAt3 4294967296 h0 h1 h2 q0 q1 q2 q3))]).getD 0)).getD 0)
def spinBad (q0 q1 q2 q3 h0 h1 h2 : Int) : Bool := wholeBad (cond (timesBad 4294967296 h0 h1 h2 q0 q1 q2 q3) 0 (timesAt0 4294967296 h0 h1 h2 q0 q1 q2 q3)) (cond (timesBad 4294967296 h0 h1 h2 q0 q1 q2 q3) 0 (timesAt1 4294967296 h0 h1 h2 q0 q1 q2 q3)) (cond (timesBad 4294967296 h0 h1 h2 q0 q1 q2 q3) 0 (timesAt2 4294967296 h0 h1 h2 q0 q1 q2 q3)) (cond (timesBad 4294967296 h0 h1 h2 q0 q1 q2 q3) 0 (timesAt3 4294967296 h0 h1 h2 q0 q1 q2 q3))
theorem whole_zero : wholeBad 0 0 0 0 = true := by
  have h : norm [0, 0, 0, 0] = some 0 := by decide
  unfold wholeBad
  rw [h]
  rfl
/-- Where the product has no value the turning on has none. -/
theorem spin_bad {q0 q1 q2 q3 h0 h1 h2 : Int} (h : timesBad 4294967296 h0 h1 h2 q0 q1 q2 q3 = true) : spinBad q0 q1 q2 q3 h0 h1 h2 = true := by
  unfold spinBad
  rw [h]
  exact whole_zero
theorem spin_chain {f g1 g2 : Bool} {q0 q1 q2 q3 h0 h1 h2 t0 t1 t2 t3 v0 v1 v2 v3 : Int} (a : t0 = cond (timesBad 4294967296 h0 h1 h2 q0 q1 q2 q3) 0 (timesAt0 4294967296 h0 h1 h2 q0 q1 q2 q3) ∧ t1 = cond (timesBad 4294967296 h0 h1 h2 q0 q1 q2 q3) 0 (timesAt1 4294967296 h0 h1 h2 q0 q1 q2 q3) ∧ t2 = cond (timesBad 4294967296 h0 h1 h2 q0 q1 q2 q3) 0 (timesAt2 4294967296 h0 h1 h2 q0 q1 q2 q3) ∧ t3 = cond (timesBad 4294967296 h0 h1 h2 q0 q1 q2 q3) 0 (timesAt3 4294967296 h0 h1 h2 q0 q1 q2 q3) ∧ g1 = (false || timesBad 4294967296 h0 h1 h2 q0 q1 q2 q3))
    (c : v0 = cond (wholeBad t0 t1 t2 t3) 0 ((ratio t0 4294967296 ((norm [t0, t1, t2, t3]).getD 0)).getD 0) ∧ v1 = cond (wholeBad t0 t1 t2 t3) 0 ((ratio t1 4294967296 ((norm [t0, t1, t2, t3]).getD 0)).getD 0) ∧ v2 = cond (wholeBad t0 t1 t2 t3) 0 ((ratio t2 4294967296 ((norm [t0, t1, t2, t3]).getD 0)).getD 0) ∧ v3 = cond (wholeBad t0 t1 t2 t3) 0 ((ratio t3 4294967296 ((norm [t0, t1, t2, t3]).getD 0)).getD 0) ∧ g2 = (g1 || wholeBad t0 t1 t2 t3)) :
    cond g2 0 v0 = spinAt0 q0 q1 q2 q3 h0 h1 h2 ∧ cond g2 0 v1 = spinAt1 q0 q1 q2 q3 h0 h1 h2 ∧ cond g2 0 v2 = spinAt2 q0 q1 q2 q3 h0 h1 h2 ∧ cond g2 0 v3 = spinAt3 q0 q1 q2 q3 h0 h1 h2 ∧ (f || g2) = (f || spinBad q0 q1 q2 q3 h0 h1 h2) := by
  obtain ⟨rfl, rfl, rfl, rfl, rfl⟩ := a
  obtain ⟨rfl, rfl, rfl, rfl, rfl⟩ := c
  have e : (false || timesBad 4294967296 h0 h1 h2 q0 q1 q2 q3 || wholeBad (cond (timesBad 4294967296 h0 h1 h2 q0 q1 q2 q3) 0 (timesAt0 4294967296 h0 h1 h2 q0 q1 q2 q3)) (cond (timesBad 4294967296 h0 h1 h2 q0 q1 q2 q3) 0 (timesAt1 4294967296 h0 h1 h2 q0 q1 q2 q3)) (cond (timesBad 4294967296 h0 h1 h2 q0 q1 q2 q3) 0 (timesAt2 4294967296 h0 h1 h2 q0 q1 q2 q3)) (cond (timesBad 4294967296 h0 h1 h2 q0 q1 q2 q3) 0 (timesAt3 4294967296 h0 h1 h2 q0 q1 q2 q3))) = spinBad q0 q1 q2 q3 h0 h1 h2 := by
    cases hb : timesBad 4294967296 h0 h1 h2 q0 q1 q2 q3 with
    | true => rw [spin_bad hb]; rfl
    | false => unfold spinBad; rw [hb]; rfl
  rw [e]
  unfold spinAt0 spinAt1 spinAt2 spinAt3
  unfold spinBad
  cases wholeBad (cond (timesBad 4294967296 h0 h1 h2 q0 q1 q2 q3) 0 (timesAt0 4294967296 h0 h1 h2 q0 q1 q2 q3)) (cond (timesBad 4294967296 h0 h1 h2 q0 q1 q2 q3) 0 (timesAt1 4294967296 h0 h1 h2 q0 q1 q2 q3)) (cond (timesBad 4294967296 h0 h1 h2 q0 q1 q2 q3) 0 (timesAt2 4294967296 h0 h1 h2 q0 q1 q2 q3)) (cond (timesBad 4294967296 h0 h1 h2 q0 q1 q2 q3) 0 (timesAt3 4294967296 h0 h1 h2 q0 q1 q2 q3)) <;> exact ⟨rfl, rfl, rfl, rfl, rfl⟩
set_option maxRecDepth 100000 in
set_option maxHeartbeats 4000000 in
theorem rvspin_law (b off : Nat) (f : Bool) (q0 q1 q2 q3 h0 h1 h2 : Int) (W : World) (hc : W.cell? ⟨b, off, none⟩ = some (.bool f)) (hf : W.frozen? ⟨b, off, none⟩ = false) :
    Calls Try.prog 25 #[.pointer (some ⟨b, off, none⟩), .agg #[.int .i64 (q0), .int .i64 (q1), .int .i64 (q2), .int .i64 (q3)], .agg #[.int .i64 (h0), .int .i64 (h1), .int .i64 (h2)]] W fun e W' => ∃ v0 v1 v2 v3 g, e = .returned (.agg #[.int .i64 (v0), .int .i64 (v1), .int .i64 (v2), .int .i64 (v3)]) ∧ Hid (v0 = spinAt0 q0 q1 q2 q3 h0 h1 h2 ∧ v1 = spinAt1 q0 q1 q2 q3 h0 h1 h2 ∧ v2 = spinAt2 q0 q1 q2 q3 h0 h1 h2 ∧ v3 = spinAt3 q0 q1 q2 q3 h0 h1 h2 ∧ g = (f || spinBad q0 q1 q2 q3 h0 h1 h2)) ∧ Hid (After ⟨b, off, none⟩ g W W') := by
  have hbW : b < W.heap.size := World.block_lt_of_cell? _ _ hc
  go_enter Try.func25, Try.ntmps25
  go_wp2_with (fail)
  refine (bare_any _).mono ?_
  rintro e W1 ⟨rfl, rfl⟩
  obtain ⟨U, hU⟩ : ∃ U, U = ((((W.alloc (.cells #[.int .i64 (q0), .int .i64 (q1), .int .i64 (q2), .int .i64 (q3)] 42)).alloc (.cells #[.int .i64 (h0), .int .i64 (h1), .int .i64 (h2)] 23)).alloc (.cells #[.int .i64 0, .int .i64 0, .int .i64 0, .int .i64 0] 42)).alloc (.cells #[.bool false] 29)) := ⟨_, rfl⟩
  obtain ⟨pa, hpa⟩ : ∃ p, p = W.heap.size := ⟨_, rfl⟩
  obtain ⟨pb, hpb⟩ : ∃ p, p = W.heap.size + 1 := ⟨_, rfl⟩
  obtain ⟨pr, hpr⟩ : ∃ p, p = W.heap.size + 1 + 1 := ⟨_, rfl⟩
  obtain ⟨po, hpo⟩ : ∃ p, p = W.heap.size + 1 + 1 + 1 := ⟨_, rfl⟩
  have H : Hid (Ho W U ⟨b, off, none⟩ po f false [(⟨pa, 0, none⟩, .int .i64 (q0)), (⟨pa, 1, none⟩, .int .i64 (q1)), (⟨pa, 2, none⟩, .int .i64 (q2)), (⟨pa, 3, none⟩, .int .i64 (q3)), (⟨pb, 0, none⟩, .int .i64 (h0)), (⟨pb, 1, none⟩, .int .i64 (h1)), (⟨pb, 2, none⟩, .int .i64 (h2)), (⟨pr, 0, none⟩, .int .i64 (0)), (⟨pr, 1, none⟩, .int .i64 (0)), (⟨pr, 2, none⟩, .int .i64 (0)), (⟨pr, 3, none⟩, .int .i64 (0))]) := by
    refine ⟨by rw [hU]; exact (((((Leaves.refl _ _).alloc _).alloc _).alloc _).alloc _), by rw [hU, World.cell?_alloc_past _ _ _ (by simp; omega), World.cell?_alloc_past _ _ _ (by simp; omega), World.cell?_alloc_past _ _ _ (by simp; omega), World.cell?_alloc_past _ _ _ hbW]; exact hc, by rw [hU, ((new_after _ _).frozen (by simp; omega)), ((new_after _ _).frozen (by simp; omega)), ((new_after _ _).frozen (by simp; omega)), ((new_after _ _).frozen hbW)]; exact hf, by rw [hU, hpo]; simp [go_sem], by rw [hU, hpo]; simp [go_sem], ?_, ?_, hbW, by omega⟩
    · intro c hc
      simp only [List.mem_cons, List.not_mem_nil, or_false] at hc
      rcases hc with rfl | rfl | rfl | rfl | rfl | rfl | rfl | rfl | rfl | rfl | rfl <;> rw [hU] <;> dsimp only <;> first | (rw [hpa]; exact ⟨by simp [go_sem], by simp [go_sem]⟩) | (rw [hpb]; exact ⟨by simp [go_sem], by simp [go_sem]⟩) | (rw [hpr]; exact ⟨by simp [go_sem], by simp [go_sem]⟩)
    · intro c hc
      simp only [List.mem_cons, List.not_mem_nil, or_false] at hc
      rcases hc with rfl | rfl | rfl | rfl | rfl | rfl | rfl | rfl | rfl | rfl | rfl <;> (dsimp only) <;> omega
  rw [← hU]
  simp only [World.size_alloc]
  rw [← hpo, ← hpr, ← hpb, ← hpa]
  have zq1 : pa < pb := by omega
  have zq2 : pb < pr := by omega
  have zq3 : pr < po := by omega
  have zq0 : W.heap.size ≤ pa := by omega
  clear hU hc hf hpa hpb hpr hpo
  have k_pa_0 := (H.out.fix (⟨pa, 0, none⟩, .int .i64 (q0)) (by simp)).1
  have k_pa_1 := (H.out.fix (⟨pa, 1, none⟩, .int .i64 (q1)) (by simp)).1
  have k_pa_2 := (H.out.fix (⟨pa, 2, none⟩, .int .i64 (q2)) (by simp)).1
  have k_pa_3 := (H.out.fix (⟨pa, 3, none⟩, .int .i64 (q3)) (by simp)).1
  have k_pb_0 := (H.out.fix (⟨pb, 0, none⟩, .int .i64 (h0)) (by simp)).1
  have k_pb_1 := (H.out.fix (⟨pb, 1, none⟩, .int .i64 (h1)) (by simp)).1
  have k_pb_2 := (H.out.fix (⟨pb, 2, none⟩, .int .i64 (h2)) (by simp)).1
  have l_pa := World.block_lt_of_cell? _ _ k_pa_0
  dsimp only at l_pa
  have l_pb := World.block_lt_of_cell? _ _ k_pb_0
  dsimp only at l_pb
  go_wp2_with (fail)
  clear k_pa_0 k_pa_1 k_pa_2 k_pa_3 k_pb_0 k_pb_1 k_pb_2 l_pa l_pb
  refine (rvtimes_law po 0 false 4294967296 h0 h1 h2 q0 q1 q2 q3 _ H.out.own H.out.ownf).mono ?_
  rintro e Wg1 ⟨t0, t1, t2, t3, g1, rfl, Sg1, A⟩
  have H : Hid _ := H.out.after A.out
  clear A
  go_upto_region 3 with fail
  obtain ⟨pt, hpt⟩ : ∃ p, p = Wg1.heap.size := ⟨_, rfl⟩
  obtain ⟨Ypt, hYpt⟩ : ∃ X, X = Wg1.alloc (.cells #[.int .i64 (t0), .int .i64 (t1), .int .i64 (t2), .int .i64 (t3)] 42) := ⟨_, rfl⟩
  have H2 : Hid (Ho W Ypt ⟨b, off, none⟩ po f g1 ([(⟨pt, 0, none⟩, .int .i64 (t0)), (⟨pt, 1, none⟩, .int .i64 (t1)), (⟨pt, 2, none⟩, .int .i64 (t2)), (⟨pt, 3, none⟩, .int .i64 (t3))] ++ [(⟨pa, 0, none⟩, .int .i64 (q0)), (⟨pa, 1, none⟩, .int .i64 (q1)), (⟨pa, 2, none⟩, .int .i64 (q2)), (⟨pa, 3, none⟩, .int .i64 (q3)), (⟨pb, 0, none⟩, .int .i64 (h0)), (⟨pb, 1, none⟩, .int .i64 (h1)), (⟨pb, 2, none⟩, .int .i64 (h2)), (⟨pr, 0, none⟩, .int .i64 (0)), (⟨pr, 1, none⟩, .int .i64 (0)), (⟨pr, 2, none⟩, .int .i64 (0)), (⟨pr, 3, none⟩, .int .i64 (0))])) := by
    show Ho _ _ _ _ _ _ _
    rw [hYpt]
    refine H.out.lay _ _ _ (fun c hc => ?_)
    simp only [List.mem_cons, List.not_mem_nil, or_false] at hc
    rcases hc with rfl | rfl | rfl | rfl
    · exact ⟨0, by rw [hpt], rfl⟩
    · exact ⟨1, by rw [hpt], rfl⟩
    · exact ⟨2, by rw [hpt], rfl⟩
    · exact ⟨3, by rw [hpt], rfl⟩
  rw [← hYpt, ← hpt]
  have H : Hid _ := H2.out
  clear hYpt hpt H2
  have kt0 := (H.out.fix (⟨pt, 0, none⟩, .int .i64 (t0)) (by simp)).1
  have kt1 := (H.out.fix (⟨pt, 1, none⟩, .int .i64 (t1)) (by simp)).1
  have kt2 := (H.out.fix (⟨pt, 2, none⟩, .int .i64 (t2)) (by simp)).1
  have kt3 := (H.out.fix (⟨pt, 3, none⟩, .int .i64 (t3)) (by simp)).1
  go_wp2_with (fail)
  clear kt0 kt1 kt2 kt3
  refine (rvwhole_law po 0 g1 t0 t1 t2 t3 _ H.out.own H.out.ownf).mono ?_
  rintro e Wg2 ⟨v0, v1, v2, v3, g2, rfl, Sg2, A⟩
  have H : Hid _ := H.out.after A.out
  clear A
  go_upto_region 4 with fail
  obtain ⟨pw, hpw⟩ : ∃ p, p = Wg2.heap.size := ⟨_, rfl⟩
  obtain ⟨Ypw, hYpw⟩ : ∃ X, X = Wg2.alloc (.cells #[.int .i64 (v0), .int .i64 (v1), .int .i64 (v2), .int .i64 (v3)] 42) := ⟨_, rfl⟩
  have zw : po < pw := by rw [hpw]; exact World.block_lt_of_cell? _ _ H.out.own
  have H2 : Hid (Ho W Ypw ⟨b, off, none⟩ po f g2 ([(⟨pw, 0, none⟩, .int .i64 (v0)), (⟨pw, 1, none⟩, .int .i64 (v1)), (⟨pw, 2, none⟩, .int .i64 (v2)), (⟨pw, 3, none⟩, .int .i64 (v3))] ++ ([(⟨pt, 0, none⟩, .int .i64 (t0)), (⟨pt, 1, none⟩, .int .i64 (t1)), (⟨pt, 2, none⟩, .int .i64 (t2)), (⟨pt, 3, none⟩, .int .i64 (t3))] ++ [(⟨pa, 0, none⟩, .int .i64 (q0)), (⟨pa, 1, none⟩, .int .i64 (q1)), (⟨pa, 2, none⟩, .int .i64 (q2)), (⟨pa, 3, none⟩, .int .i64 (q3)), (⟨pb, 0, none⟩, .int .i64 (h0)), (⟨pb, 1, none⟩, .int .i64 (h1)), (⟨pb, 2, none⟩, .int .i64 (h2)), (⟨pr, 0, none⟩, .int .i64 (0)), (⟨pr, 1, none⟩, .int .i64 (0)), (⟨pr, 2, none⟩, .int .i64 (0)), (⟨pr, 3, none⟩, .int .i64 (0))]))) := by
    show Ho _ _ _ _ _ _ _
    rw [hYpw]
    refine H.out.lay _ _ _ (fun c hc => ?_)
    simp only [List.mem_cons, List.not_mem_nil, or_false] at hc
    rcases hc with rfl | rfl | rfl | rfl
    · exact ⟨0, by rw [hpw], rfl⟩
    · exact ⟨1, by rw [hpw], rfl⟩
    · exact ⟨2, by rw [hpw], rfl⟩
    · exact ⟨3, by rw [hpw], rfl⟩
  rw [← hYpw, ← hpw]
  have H : Hid _ := H2.out
  clear hYpw hpw H2
  go_wp2_with (fail)
  refine (done_any b off po f g2 _ H.out.flag H.out.flagf H.out.own (by omega)).mono ?_
  rintro e V9 ⟨rfl, A⟩
  have rr0 := A.out.cellOf (H.out.fix (⟨pr, 0, none⟩, .int .i64 (0)) (by simp)).1 (by show pr ≠ b; omega)
  have rf0 := A.out.frozenOf (H.out.fix (⟨pr, 0, none⟩, .int .i64 (0)) (by simp)).1 (H.out.fix (⟨pr, 0, none⟩, .int .i64 (0)) (by simp)).2 (by show pr ≠ b; omega)
  have rr1 := A.out.cellOf (H.out.fix (⟨pr, 1, none⟩, .int .i64 (0)) (by simp)).1 (by show pr ≠ b; omega)
  have rf1 := A.out.frozenOf (H.out.fix (⟨pr, 1, none⟩, .int .i64 (0)) (by simp)).1 (H.out.fix (⟨pr, 1, none⟩, .int .i64 (0)) (by simp)).2 (by show pr ≠ b; omega)
  have rr2 := A.out.cellOf (H.out.fix (⟨pr, 2, none⟩, .int .i64 (0)) (by simp)).1 (by show pr ≠ b; omega)
  have rf2 := A.out.frozenOf (H.out.fix (⟨pr, 2, none⟩, .int .i64 (0)) (by simp)).1 (H.out.fix (⟨pr, 2, none⟩, .int .i64 (0)) (by simp)).2 (by show pr ≠ b; omega)
  have rr3 := A.out.cellOf (H.out.fix (⟨pr, 3, none⟩, .int .i64 (0)) (by simp)).1 (by show pr ≠ b; omega)
  have rf3 := A.out.frozenOf (H.out.fix (⟨pr, 3, none⟩, .int .i64 (0)) (by simp)).1 (H.out.fix (⟨pr, 3, none⟩, .int .i64 (0)) (by simp)).2 (by show pr ≠ b; omega)
  have kw0 := A.out.cellOf (H.out.fix (⟨pw, 0, none⟩, .int .i64 (v0)) (by simp)).1 (by show pw ≠ b; omega)
  have kw1 := A.out.cellOf (H.out.fix (⟨pw, 1, none⟩, .int .i64 (v1)) (by simp)).1 (by show pw ≠ b; omega)
  have kw2 := A.out.cellOf (H.out.fix (⟨pw, 2, none⟩, .int .i64 (v2)) (by simp)).1 (by show pw ≠ b; omega)
  have kw3 := A.out.cellOf (H.out.fix (⟨pw, 3, none⟩, .int .i64 (v3)) (by simp)).1 (by show pw ≠ b; omega)
  have n5 : pw ≠ pr := by omega
  have n6 : pr ≠ pw := by omega
  have HL : Hid (Leaves ⟨b, off, none⟩ W V9) := H.out.leaves.same A.out
  have hp := A.out.cell
  have hpf := A.out.frozen
  have n1 : b ≠ pr := by omega
  have n2 : pr ≠ b := by omega
  have hWr : W.heap.size ≤ pr := by omega
  have HS : Hid _ := spin_chain (f := f) Sg1.out Sg2.out
  clear A H Sg1 Sg2
  cases g2 with
  | true =>
    go_wp2_with (fail)
    refine bodyPost_ret (by simp [results, Try.results25, go_sem, rr0, rr1, rr2, rr3]; try rfl) rfl ?_
    refine ⟨0, 0, 0, 0, _, rfl, HS.out, ((((HL.out.set hWr _).set hWr _).set hWr _).set hWr _).done ?_ ?_⟩
    · simp [go_sem, hp]
    · simp [go_sem, hpf]
  | false =>
    go_wp2_with (fail)
    refine bodyPost_ret (by simp [results, Try.results25, go_sem, rr0, rr1, rr2, rr3]; try rfl) rfl ?_
    refine ⟨_, _, _, _, _, rfl, HS.out, ((((HL.out.set hWr _).set hWr _).set hWr _).set hWr _).done ?_ ?_⟩
    · simp [go_sem, hp]
    · simp [go_sem, hpf]

end Go.Proofs.Ytioailboehpcaaa
