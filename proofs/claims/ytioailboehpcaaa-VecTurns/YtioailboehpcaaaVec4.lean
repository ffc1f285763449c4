/- Package vec's turning back, and turns made whole. -/
import Derived.Test.YtioailboehpcaaaTurn
import Derived.Test.YtioailboehpcaaaEach4
namespace Go.Proofs.Ytioailboehpcaaa
open Go.RowKit Fx
set_option linter.unusedVariables false

set_option maxHeartbeats 1000000 in
theorem vback_law (b off : Nat) (f : Bool) (m0 m1 m2 m3 m4 m5 m6 m7 m8 x0 x1 x2 : Int) (W : World) (hc : W.cell? ⟨b, off, none⟩ = some (.bool f)) (hf : W.frozen? ⟨b, off, none⟩ = false) :
    Calls Try.prog 30 #[.pointer (some ⟨b, off, none⟩), .agg #[.int .i64 (m0), .int .i64 (m1), .int .i64 (m2), .int .i64 (m3), .int .i64 (m4), .int .i64 (m5), .int .i64 (m6), .int .i64 (m7), .int .i64 (m8)], .agg #[.int .i64 (x0), .int .i64 (x1), .int .i64 (x2)]] W fun e W' => ∃ v0 v1 v2 g, e = .returned (.agg #[.int .i64 (v0), .int .i64 (v1), .int .i64 (v2)]) ∧ Hid (Step3 f (dot [m0, m3, m6] [x0, x1, x2]) (dot [m1, m4, m7] [x0, x1, x2]) (dot [m2, m5, m8] [x0, x1, x2]) v0 v1 v2 g) ∧ Hid (After ⟨b, off, none⟩ g W W') := by
  have hbW : b < W.heap.size := World.block_lt_of_cell? _ _ hc
  have HC : Hid _ := hc
  have HF : Hid _ := hf
  clear hc hf
  go_enter Try.func30, Try.ntmps30
  go_wp2_with (fail)
  refine (vturn_law b off f m0 m3 m6 m1 m4 m7 m2 m5 m8 x0 x1 x2 _ (by rw [World.cell?_alloc_past _ _ _ (by simp; omega), World.cell?_alloc_past _ _ _ (by simp; omega), World.cell?_alloc_past _ _ _ hbW]; exact HC.out) (by rw [((new_after _ _).frozen (by simp; omega)), ((new_after _ _).frozen (by simp; omega)), ((new_after _ _).frozen hbW)]; exact HF.out)).mono ?_
  rintro e W1 ⟨v0, v1, v2, g, rfl, S, A⟩
  have HL : Hid (Leaves ⟨b, off, none⟩ W W1) := ((((Leaves.refl _ _).alloc _).alloc _).alloc _).same A.out
  have hp := A.out.cell
  have hpf := A.out.frozen
  have r0 := A.out.cellOf (q := ⟨W.heap.size + 1 + 1, 0, none⟩) (v := .int .i64 0) (by simp [go_sem]) (by simp; omega)
  have r1 := A.out.cellOf (q := ⟨W.heap.size + 1 + 1, 1, none⟩) (v := .int .i64 0) (by simp [go_sem]) (by simp; omega)
  have r2 := A.out.cellOf (q := ⟨W.heap.size + 1 + 1, 2, none⟩) (v := .int .i64 0) (by simp [go_sem]) (by simp; omega)
  have f0 := A.out.frozenOf (q := ⟨W.heap.size + 1 + 1, 0, none⟩) (v := .int .i64 0) (by simp [go_sem]) (by simp [go_sem]) (by simp; omega)
  have f1 := A.out.frozenOf (q := ⟨W.heap.size + 1 + 1, 1, none⟩) (v := .int .i64 0) (by simp [go_sem]) (by simp [go_sem]) (by simp; omega)
  have f2 := A.out.frozenOf (q := ⟨W.heap.size + 1 + 1, 2, none⟩) (v := .int .i64 0) (by simp [go_sem]) (by simp [go_sem]) (by simp; omega)
  have n1 : b ≠ W.heap.size + 1 + 1 := by omega
  have n2 : W.heap.size + 1 + 1 ≠ b := by omega
  clear A HC HF
  go_wp2_with (fail)
  refine bodyPost_ret (by simp [results, Try.results30, go_sem, r0, r1, r2]; try rfl) rfl ?_
  refine ⟨_, _, _, _, rfl, S, (((HL.out.set (by simp; omega) _).set (by simp; omega) _).set (by simp; omega) _).done ?_ ?_⟩
  · simp [go_sem, hp]
  · simp [go_sem, hpf]

theorem norm4_law (b off : Nat) (f : Bool) (x y z u : Int) (W : World) (hc : W.cell? ⟨b, off, none⟩ = some (.bool f)) (hf : W.frozen? ⟨b, off, none⟩ = false) :
    Calls Try.prog 45 #[.pointer (some ⟨b, off, none⟩), .slice (some ⟨W.heap.size, 0, none⟩) 4 4] (W.alloc (.cells #[.int .i64 x, .int .i64 y, .int .i64 z, .int .i64 u] 3)) fun e W' => ∃ v g, e = .returned (.int .i64 v) ∧ Hid (Step f (norm [x, y, z, u]) v g) ∧ Hid (After ⟨b, off, none⟩ g W W') := by
  have hb := new_after W (.cells #[.int .i64 x, .int .i64 y, .int .i64 z, .int .i64 u] 3)
  have hc' := cell_after hb hc
  have hf' := frozen_after hb hc hf
  have h := norm_any b off f [x, y, z, u] W.heap.size 0 4 (W.alloc (.cells #[.int .i64 x, .int .i64 y, .int .i64 z, .int .i64 u] 3)) hc' hf' (fun k hk => by
    match k, hk with
    | 0, _ => simp
    | 1, _ => simp
    | 2, _ => simp
    | 3, _ => simp) (by simp)
  exact h.mono fun _ _ ⟨a, h⟩ => ⟨_, _, a, ⟨rfl, rfl⟩, after_of (mark_after hb h) hc hf⟩

/-- Can a turn not be made whole? -/
def wholeBad (q0 q1 q2 q3 : Int) : Bool := decide (((norm [q0, q1, q2, q3]).getD 0) < 2147483648) || ((ratio q0 4294967296 ((norm [q0, q1, q2, q3]).getD 0)).isNone || (ratio q1 4294967296 ((norm [q0, q1, q2, q3]).getD 0)).isNone || (ratio q2 4294967296 ((norm [q0, q1, q2, q3]).getD 0)).isNone || (ratio q3 4294967296 ((norm [q0, q1, q2, q3]).getD 0)).isNone)

set_option maxHeartbeats 2000000 in
theorem vwhole_law (b off : Nat) (f : Bool) (q0 q1 q2 q3 : Int) (W : World) (hc : W.cell? ⟨b, off, none⟩ = some (.bool f)) (hf : W.frozen? ⟨b, off, none⟩ = false) :
    Calls Try.prog 22 #[.pointer (some ⟨b, off, none⟩), .agg #[.int .i64 (q0), .int .i64 (q1), .int .i64 (q2), .int .i64 (q3)]] W fun e W' => ∃ v0 v1 v2 v3 g, e = .returned (.agg #[.int .i64 (v0), .int .i64 (v1), .int .i64 (v2), .int .i64 (v3)]) ∧ Hid (v0 = cond (wholeBad q0 q1 q2 q3) 0 ((ratio q0 4294967296 ((norm [q0, q1, q2, q3]).getD 0)).getD 0) ∧ v1 = cond (wholeBad q0 q1 q2 q3) 0 ((ratio q1 4294967296 ((norm [q0, q1, q2, q3]).getD 0)).getD 0) ∧ v2 = cond (wholeBad q0 q1 q2 q3) 0 ((ratio q2 4294967296 ((norm [q0, q1, q2, q3]).getD 0)).getD 0) ∧ v3 = cond (wholeBad q0 q1 q2 q3) 0 ((ratio q3 4294967296 ((norm [q0, q1, q2, q3]).getD 0)).getD 0) ∧ g = (f || wholeBad q0 q1 q2 q3)) ∧ Hid (After ⟨b, off, none⟩ g W W') := by
  have hbW : b < W.heap.size := World.block_lt_of_cell? _ _ hc
  have HC : Hid _ := hc
  have HF : Hid _ := hf
  clear hc hf
  go_enter Try.func22, Try.ntmps22
  go_wp2_with (fail)
  have N := norm4_law (W.heap.size + 1 + 1) 0 false q0 q1 q2 q3 (((W.alloc (.cells #[.int .i64 (q0), .int .i64 (q1), .int .i64 (q2), .int .i64 (q3)] 42)).alloc (.cells #[.int .i64 0, .int .i64 0, .int .i64 0, .int .i64 0] 42)).alloc (.cells #[.bool false] 27)) (by simp [go_sem]) (by simp [go_sem])
  simp only [World.size_alloc] at N
  refine N.mono ?_
  rintro e W1 ⟨nn, g1, rfl, S, A⟩
  clear N
  have hp := A.out.cellOf (q := ⟨b, off, none⟩) (v := .bool f) (by rw [World.cell?_alloc_past _ _ _ (by simp; omega), World.cell?_alloc_past _ _ _ (by simp; omega), World.cell?_alloc_past _ _ _ hbW]; exact HC.out) (by simp; omega)
  have hpf := A.out.frozenOf (q := ⟨b, off, none⟩) (v := .bool f) (by rw [World.cell?_alloc_past _ _ _ (by simp; omega), World.cell?_alloc_past _ _ _ (by simp; omega), World.cell?_alloc_past _ _ _ hbW]; exact HC.out) (by rw [((new_after _ _).frozen (by simp; omega)), ((new_after _ _).frozen (by simp; omega)), ((new_after _ _).frozen hbW)]; exact HF.out) (by simp; omega)
  have HL : Hid (Leaves ⟨b, off, none⟩ W W1) := ((((Leaves.refl _ _).alloc _).alloc _).alloc _).after A.out (by simp; omega)
  have ho := A.out.cell
  have hof := A.out.frozen
  have k0 := A.out.cellOf (q := ⟨W.heap.size, 0, none⟩) (v := .int .i64 (q0)) (by simp [go_sem]) (by simp; omega)
  have f0 := A.out.frozenOf (q := ⟨W.heap.size + 1, 0, none⟩) (v := .int .i64 0) (by simp [go_sem]) (by simp [go_sem]) (by simp)
  have r0 := A.out.cellOf (q := ⟨W.heap.size + 1, 0, none⟩) (v := .int .i64 0) (by simp [go_sem]) (by simp)
  have k1 := A.out.cellOf (q := ⟨W.heap.size, 1, none⟩) (v := .int .i64 (q1)) (by simp [go_sem]) (by simp; omega)
  have f1 := A.out.frozenOf (q := ⟨W.heap.size + 1, 1, none⟩) (v := .int .i64 0) (by simp [go_sem]) (by simp [go_sem]) (by simp)
  have r1 := A.out.cellOf (q := ⟨W.heap.size + 1, 1, none⟩) (v := .int .i64 0) (by simp [go_sem]) (by simp)
  have k2 := A.out.cellOf (q := ⟨W.heap.size, 2, none⟩) (v := .int .i64 (q2)) (by simp [go_sem]) (by simp; omega)
  have f2 := A.out.frozenOf (q := ⟨W.heap.size + 1, 2, none⟩) (v := .int .i64 0) (by simp [go_sem]) (by simp [go_sem]) (by simp)
  have r2 := A.out.cellOf (q := ⟨W.heap.size + 1, 2, none⟩) (v := .int .i64 0) (by simp [go_sem]) (by simp)
  have k3 := A.out.cellOf (q := ⟨W.heap.size, 3, none⟩) (v := .int .i64 (q3)) (by simp [go_sem]) (by simp; omega)
  have f3 := A.out.frozenOf (q := ⟨W.heap.size + 1, 3, none⟩) (v := .int .i64 0) (by simp [go_sem]) (by simp [go_sem]) (by simp)
  have r3 := A.out.cellOf (q := ⟨W.heap.size + 1, 3, none⟩) (v := .int .i64 0) (by simp [go_sem]) (by simp)
  have n1 : b ≠ W.heap.size + 1 := by omega
  have n2 : W.heap.size + 1 ≠ b := by omega
  have n3 : W.heap.size + 1 + 1 ≠ b := by omega
  clear A HC HF
  obtain ⟨hn, hg1⟩ := S.out
  have HN : Hid _ := hn
  have HG : Hid _ := hg1
  clear S hn hg1
  by_cases hlow : nn < 2147483648
  · have hbad : Hid (wholeBad q0 q1 q2 q3 = true) := by show _ = _; unfold wholeBad; rw [← HN.out]; simp [hlow]
    go_wp2_with (fail)
    refine bodyPost_ret (by simp [results, Try.results22, go_sem, r0, r1, r2, r3]; try rfl) rfl ?_
    refine ⟨0, 0, 0, 0, true, rfl, ?_, ?_⟩
    · show _ ∧ _ ∧ _ ∧ _ ∧ _
      rw [hbad.out]; simp
    · refine (((((HL.out.own _).set (by simp) _).set (by simp) _).set (by simp) _).set (by simp) _).done ?_ ?_
      · simp [go_sem, hp]
      · simp [go_sem, hpf]
  · go_wp2_with (fail)
    refine (each4_div_any (W.heap.size + 1 + 1) g1 q0 q1 q2 q3 nn nn nn nn W1 ho hof).mono ?_
    rintro e W2 ⟨g2, rfl, SG, A⟩
    have HL2 : Hid (Leaves ⟨b, off, none⟩ W W2) := HL.out.after A.out (by simp; omega)
    have hpf := A.out.frozenOf hp hpf (by simp; omega)
    have hp := A.out.cellOf hp (by simp; omega)
    have ho := A.out.cell
    have hof := A.out.frozen
    have f0 := A.out.frozenOf r0 f0 (by simp)
    have r0 := A.out.cellOf r0 (by simp)
    have f1 := A.out.frozenOf r1 f1 (by simp)
    have r1 := A.out.cellOf r1 (by simp)
    have f2 := A.out.frozenOf r2 f2 (by simp)
    have r2 := A.out.cellOf r2 (by simp)
    have f3 := A.out.frozenOf r3 f3 (by simp)
    have r3 := A.out.cellOf r3 (by simp)
    clear A HL
    go_wp2_with (fail)
    refine (tell4_any b off (W.heap.size + 1 + 1) f g2 _ _ _ _ W2 hp hpf ho).mono ?_
    rintro e W3 ⟨rfl, A⟩
    have HL3 : Hid (Leaves ⟨b, off, none⟩ W W3) := HL2.out.same A.out
    have hp := A.out.cell
    have hpf := A.out.frozen
    have f0 := A.out.frozenOf r0 f0 (by simp; omega)
    have r0 := A.out.cellOf r0 (by simp; omega)
    have f1 := A.out.frozenOf r1 f1 (by simp; omega)
    have r1 := A.out.cellOf r1 (by simp; omega)
    have f2 := A.out.frozenOf r2 f2 (by simp; omega)
    have r2 := A.out.cellOf r2 (by simp; omega)
    have f3 := A.out.frozenOf r3 f3 (by simp; omega)
    have r3 := A.out.cellOf r3 (by simp; omega)
    have hbad : Hid (wholeBad q0 q1 q2 q3 = g2) := by
      show _ = _
      have e1 : (norm [q0, q1, q2, q3]).isNone = false := by
        cases h : norm [q0, q1, q2, q3] with
        | none => have := HN.out; rw [h] at this; exact absurd this (by simp; omega)
        | some v => rfl
      have e2 : g1 = false := by rw [HG.out, e1]; rfl
      unfold wholeBad
      rw [← HN.out, SG.out, e2, decide_eq_false (by omega)]
    clear A HL2
    go_wp2_with (fail)
    refine bodyPost_ret (by simp [results, Try.results22, go_sem, r0, r1, r2, r3]; try rfl) rfl ?_
    refine ⟨_, _, _, _, _, rfl, ?_, ((((HL3.out.set (by simp) _).set (by simp) _).set (by simp) _).set (by simp) _).done (g := f || g2) ?_ ?_⟩
    · show _ ∧ _ ∧ _ ∧ _ ∧ _
      rw [hbad.out, ← HN.out]
      exact ⟨rfl, rfl, rfl, rfl, rfl⟩
    · simp [go_sem, hp]
    · simp [go_sem, hpf]

end Go.Proofs.Ytioailboehpcaaa
