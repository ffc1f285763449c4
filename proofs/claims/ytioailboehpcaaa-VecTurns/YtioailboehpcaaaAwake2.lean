/- The examples of the second chapter. -/
import Derived.Test.YtioailboehpcaaaVec4
import Derived.Test.YtioailboehpcaaaCross
import Derived.Test.YtioailboehpcaaaUnit
import Derived.Test.YtioailboehpcaaaRows3
namespace Go.Proofs.Ytioailboehpcaaa
open Go.RowKit Fx
set_option linter.unusedVariables false

theorem norm_big : norm [8589934592, 0, 0, 0] = some 8589934592 := by
  have h : ((isq (prods [8589934592, 0, 0, 0] [8589934592, 0, 0, 0]).toNat : Nat) : Int) = 8589934592 := (isq_of (by omega) (by decide) (by decide)).symm
  unfold norm
  rw [if_neg (by decide), if_neg (by decide), h]
  decide

theorem whole_big : wholeBad 8589934592 0 0 0 = false ∧ (ratio 8589934592 4294967296 ((norm [8589934592, 0, 0, 0]).getD 0)).getD 0 = 4294967296 ∧ (ratio 0 4294967296 ((norm [8589934592, 0, 0, 0]).getD 0)).getD 0 = 0 := by
  unfold wholeBad
  rw [norm_big]
  decide

set_option maxRecDepth 100000 in
set_option maxHeartbeats 4000000 in
theorem awake2_any (w : World) : Calls Try.prog 5 #[] w fun e w' => e = .returned (.bool true) ∧ Below w.heap.size w w' := by
  go_enter Try.func5, Try.ntmps5
  go_wp2_with (fail)
  refine (vcross_law w.heap.size 0 false 4294967296 0 0 0 4294967296 0 _ (by simp) (by simp)).mono ?_
  rintro e W1 ⟨v0, v1, v2, g, rfl, S, A⟩
  obtain ⟨rfl, rfl, rfl, rfl⟩ : v0 = 0 ∧ v1 = 0 ∧ v2 = 4294967296 ∧ g = false := ⟨S.out.1, S.out.2.1, S.out.2.2.1, S.out.2.2.2⟩
  have c := A.out.cell
  have f := A.out.frozen
  have HB : Hid _ := A.out.on (new_after w _) (Nat.le_refl _)
  have hs := World.block_lt_of_cell? _ _ c
  have hs : w.heap.size < W1.heap.size := hs
  clear S A
  obtain ⟨p1, hp1⟩ : ∃ p, p = W1.heap.size := ⟨_, rfl⟩
  have b0 := new_after W1 (.cells #[.int .i64 0, .int .i64 0, .int .i64 4294967296] 23)
  have x0_0 : (W1.alloc (.cells #[.int .i64 0, .int .i64 0, .int .i64 4294967296] 23)).cell? ⟨p1, 0, none⟩ = some (.int .i64 0) := by rw [hp1]; simp
  have x0_1 : (W1.alloc (.cells #[.int .i64 0, .int .i64 0, .int .i64 4294967296] 23)).cell? ⟨p1, 1, none⟩ = some (.int .i64 0) := by rw [hp1]; simp
  have x0_2 : (W1.alloc (.cells #[.int .i64 0, .int .i64 0, .int .i64 4294967296] 23)).cell? ⟨p1, 2, none⟩ = some (.int .i64 4294967296) := by rw [hp1]; simp
  have HB : Hid _ := HB.out.alloc HB.out.size (.cells #[.int .i64 0, .int .i64 0, .int .i64 4294967296] 23)
  have hs0 : w.heap.size < p1 := by omega
  have hn0 : p1 ≠ w.heap.size := by omega
  have f := frozen_after b0 c f
  have c := cell_after b0 c
  go_wp2_with (fail)
  rw [← hp1]
  refine (vunit_law w.heap.size 0 false 3 0 4 _ c f).mono ?_
  clear b0
  rintro e W2 ⟨v0, v1, v2, g, rfl, S, A⟩
  obtain ⟨rfl, rfl, rfl, rfl⟩ : v0 = 2576980377 ∧ v1 = 0 ∧ v2 = 3435973836 ∧ g = false := ⟨S.out.1, S.out.2.1, S.out.2.2.1, S.out.2.2.2⟩
  clear S
  have HB : Hid _ := A.out.on HB.out (Nat.le_refl _)
  have c := A.out.cell
  have f := A.out.frozen
  have x0_0 := A.out.cellOf x0_0 (by show p1 ≠ _; omega)
  have x0_1 := A.out.cellOf x0_1 (by show p1 ≠ _; omega)
  have x0_2 := A.out.cellOf x0_2 (by show p1 ≠ _; omega)
  have hs := A.out.size
  clear A hp1
  have hs : w.heap.size < W2.heap.size := World.block_lt_of_cell? _ _ c
  obtain ⟨p2, hp2⟩ : ∃ p, p = W2.heap.size := ⟨_, rfl⟩
  have b1 := new_after W2 (.cells #[.int .i64 2576980377, .int .i64 0, .int .i64 3435973836] 23)
  have x1_0 : (W2.alloc (.cells #[.int .i64 2576980377, .int .i64 0, .int .i64 3435973836] 23)).cell? ⟨p2, 0, none⟩ = some (.int .i64 2576980377) := by rw [hp2]; simp
  have x1_1 : (W2.alloc (.cells #[.int .i64 2576980377, .int .i64 0, .int .i64 3435973836] 23)).cell? ⟨p2, 1, none⟩ = some (.int .i64 0) := by rw [hp2]; simp
  have x1_2 : (W2.alloc (.cells #[.int .i64 2576980377, .int .i64 0, .int .i64 3435973836] 23)).cell? ⟨p2, 2, none⟩ = some (.int .i64 3435973836) := by rw [hp2]; simp
  have HB : Hid _ := HB.out.alloc HB.out.size (.cells #[.int .i64 2576980377, .int .i64 0, .int .i64 3435973836] 23)
  have hs0 : w.heap.size < p2 := by omega
  have hn0 : p2 ≠ w.heap.size := by omega
  have x0_0 := cell_after b1 x0_0
  have x0_1 := cell_after b1 x0_1
  have x0_2 := cell_after b1 x0_2
  have f := frozen_after b1 c f
  have c := cell_after b1 c
  go_wp2_with (fail)
  rw [← hp2]
  refine (vwhole_law w.heap.size 0 false 8589934592 0 0 0 _ c f).mono ?_
  clear b1
  rintro e W3 ⟨v0, v1, v2, v3, g, rfl, S, A⟩
  obtain ⟨rfl, rfl, rfl, rfl, rfl⟩ : v0 = 4294967296 ∧ v1 = 0 ∧ v2 = 0 ∧ v3 = 0 ∧ g = false := by
    have h := S.out
    rw [whole_big.1, whole_big.2.1, whole_big.2.2] at h
    exact h
  clear S
  have HB : Hid _ := A.out.on HB.out (Nat.le_refl _)
  have c := A.out.cell
  have f := A.out.frozen
  have x0_0 := A.out.cellOf x0_0 (by show p1 ≠ _; omega)
  have x0_1 := A.out.cellOf x0_1 (by show p1 ≠ _; omega)
  have x0_2 := A.out.cellOf x0_2 (by show p1 ≠ _; omega)
  have x1_0 := A.out.cellOf x1_0 (by show p2 ≠ _; omega)
  have x1_1 := A.out.cellOf x1_1 (by show p2 ≠ _; omega)
  have x1_2 := A.out.cellOf x1_2 (by show p2 ≠ _; omega)
  have hs := A.out.size
  clear A hp2
  have hs : w.heap.size < W3.heap.size := World.block_lt_of_cell? _ _ c
  obtain ⟨p3, hp3⟩ : ∃ p, p = W3.heap.size := ⟨_, rfl⟩
  have b2 := new_after W3 (.cells #[.int .i64 4294967296, .int .i64 0, .int .i64 0, .int .i64 0] 42)
  have x2_0 : (W3.alloc (.cells #[.int .i64 4294967296, .int .i64 0, .int .i64 0, .int .i64 0] 42)).cell? ⟨p3, 0, none⟩ = some (.int .i64 4294967296) := by rw [hp3]; simp
  have x2_1 : (W3.alloc (.cells #[.int .i64 4294967296, .int .i64 0, .int .i64 0, .int .i64 0] 42)).cell? ⟨p3, 1, none⟩ = some (.int .i64 0) := by rw [hp3]; simp
  have x2_2 : (W3.alloc (.cells #[.int .i64 4294967296, .int .i64 0, .int .i64 0, .int .i64 0] 42)).cell? ⟨p3, 2, none⟩ = some (.int .i64 0) := by rw [hp3]; simp
  have x2_3 : (W3.alloc (.cells #[.int .i64 4294967296, .int .i64 0, .int .i64 0, .int .i64 0] 42)).cell? ⟨p3, 3, none⟩ = some (.int .i64 0) := by rw [hp3]; simp
  have HB : Hid _ := HB.out.alloc HB.out.size (.cells #[.int .i64 4294967296, .int .i64 0, .int .i64 0, .int .i64 0] 42)
  have hs0 : w.heap.size < p3 := by omega
  have hn0 : p3 ≠ w.heap.size := by omega
  have x0_0 := cell_after b2 x0_0
  have x0_1 := cell_after b2 x0_1
  have x0_2 := cell_after b2 x0_2
  have x1_0 := cell_after b2 x1_0
  have x1_1 := cell_after b2 x1_1
  have x1_2 := cell_after b2 x1_2
  have f := frozen_after b2 c f
  have c := cell_after b2 c
  go_wp2_with (fail)
  rw [← hp3]
  refine (vrows_law w.heap.size 0 false 4294967296 0 0 0 _ c f).mono ?_
  clear b2
  rintro e W4 ⟨rfl, A⟩
  have hbad : rowsBad 4294967296 0 0 0 = false := by rfl
  have hv0 : (cond (rowsBad 4294967296 0 0 0) 0 (rowsAt0 4294967296 0 0 0)) = 4294967296 := by rfl
  have hv1 : (cond (rowsBad 4294967296 0 0 0) 0 (rowsAt1 4294967296 0 0 0)) = 0 := by rfl
  have hv2 : (cond (rowsBad 4294967296 0 0 0) 0 (rowsAt2 4294967296 0 0 0)) = 0 := by rfl
  have hv3 : (cond (rowsBad 4294967296 0 0 0) 0 (rowsAt3 4294967296 0 0 0)) = 0 := by rfl
  have hv4 : (cond (rowsBad 4294967296 0 0 0) 0 (rowsAt4 4294967296 0 0 0)) = 4294967296 := by rfl
  have hv5 : (cond (rowsBad 4294967296 0 0 0) 0 (rowsAt5 4294967296 0 0 0)) = 0 := by rfl
  have hv6 : (cond (rowsBad 4294967296 0 0 0) 0 (rowsAt6 4294967296 0 0 0)) = 0 := by rfl
  have hv7 : (cond (rowsBad 4294967296 0 0 0) 0 (rowsAt7 4294967296 0 0 0)) = 0 := by rfl
  have hv8 : (cond (rowsBad 4294967296 0 0 0) 0 (rowsAt8 4294967296 0 0 0)) = 4294967296 := by rfl
  rw [hv0, hv1, hv2, hv3, hv4, hv5, hv6, hv7, hv8]
  rw [hbad] at A
  clear hv0 hv1 hv2 hv3 hv4 hv5 hv6 hv7 hv8 hbad
  have HB : Hid _ := A.out.on HB.out (Nat.le_refl _)
  have c := A.out.cell
  have f := A.out.frozen
  have x0_0 := A.out.cellOf x0_0 (by show p1 ≠ _; omega)
  have x0_1 := A.out.cellOf x0_1 (by show p1 ≠ _; omega)
  have x0_2 := A.out.cellOf x0_2 (by show p1 ≠ _; omega)
  have x1_0 := A.out.cellOf x1_0 (by show p2 ≠ _; omega)
  have x1_1 := A.out.cellOf x1_1 (by show p2 ≠ _; omega)
  have x1_2 := A.out.cellOf x1_2 (by show p2 ≠ _; omega)
  have x2_0 := A.out.cellOf x2_0 (by show p3 ≠ _; omega)
  have x2_1 := A.out.cellOf x2_1 (by show p3 ≠ _; omega)
  have x2_2 := A.out.cellOf x2_2 (by show p3 ≠ _; omega)
  have x2_3 := A.out.cellOf x2_3 (by show p3 ≠ _; omega)
  have hs := A.out.size
  clear A hp3
  have hs : w.heap.size < W4.heap.size := World.block_lt_of_cell? _ _ c
  obtain ⟨p4, hp4⟩ : ∃ p, p = W4.heap.size := ⟨_, rfl⟩
  have b3 := new_after W4 (.cells #[.int .i64 4294967296, .int .i64 0, .int .i64 0, .int .i64 0, .int .i64 4294967296, .int .i64 0, .int .i64 0, .int .i64 0, .int .i64 4294967296] 44)
  have x3_0 : (W4.alloc (.cells #[.int .i64 4294967296, .int .i64 0, .int .i64 0, .int .i64 0, .int .i64 4294967296, .int .i64 0, .int .i64 0, .int .i64 0, .int .i64 4294967296] 44)).cell? ⟨p4, 0, none⟩ = some (.int .i64 4294967296) := by rw [hp4]; simp
  have x3_1 : (W4.alloc (.cells #[.int .i64 4294967296, .int .i64 0, .int .i64 0, .int .i64 0, .int .i64 4294967296, .int .i64 0, .int .i64 0, .int .i64 0, .int .i64 4294967296] 44)).cell? ⟨p4, 1, none⟩ = some (.int .i64 0) := by rw [hp4]; simp
  have x3_2 : (W4.alloc (.cells #[.int .i64 4294967296, .int .i64 0, .int .i64 0, .int .i64 0, .int .i64 4294967296, .int .i64 0, .int .i64 0, .int .i64 0, .int .i64 4294967296] 44)).cell? ⟨p4, 2, none⟩ = some (.int .i64 0) := by rw [hp4]; simp
  have x3_3 : (W4.alloc (.cells #[.int .i64 4294967296, .int .i64 0, .int .i64 0, .int .i64 0, .int .i64 4294967296, .int .i64 0, .int .i64 0, .int .i64 0, .int .i64 4294967296] 44)).cell? ⟨p4, 3, none⟩ = some (.int .i64 0) := by rw [hp4]; simp
  have x3_4 : (W4.alloc (.cells #[.int .i64 4294967296, .int .i64 0, .int .i64 0, .int .i64 0, .int .i64 4294967296, .int .i64 0, .int .i64 0, .int .i64 0, .int .i64 4294967296] 44)).cell? ⟨p4, 4, none⟩ = some (.int .i64 4294967296) := by rw [hp4]; simp
  have x3_5 : (W4.alloc (.cells #[.int .i64 4294967296, .int .i64 0, .int .i64 0, .int .i64 0, .int .i64 4294967296, .int .i64 0, .int .i64 0, .int .i64 0, .int .i64 4294967296] 44)).cell? ⟨p4, 5, none⟩ = some (.int .i64 0) := by rw [hp4]; simp
  have x3_6 : (W4.alloc (.cells #[.int .i64 4294967296, .int .i64 0, .int .i64 0, .int .i64 0, .int .i64 4294967296, .int .i64 0, .int .i64 0, .int .i64 0, .int .i64 4294967296] 44)).cell? ⟨p4, 6, none⟩ = some (.int .i64 0) := by rw [hp4]; simp
  have x3_7 : (W4.alloc (.cells #[.int .i64 4294967296, .int .i64 0, .int .i64 0, .int .i64 0, .int .i64 4294967296, .int .i64 0, .int .i64 0, .int .i64 0, .int .i64 4294967296] 44)).cell? ⟨p4, 7, none⟩ = some (.int .i64 0) := by rw [hp4]; simp
  have x3_8 : (W4.alloc (.cells #[.int .i64 4294967296, .int .i64 0, .int .i64 0, .int .i64 0, .int .i64 4294967296, .int .i64 0, .int .i64 0, .int .i64 0, .int .i64 4294967296] 44)).cell? ⟨p4, 8, none⟩ = some (.int .i64 4294967296) := by rw [hp4]; simp
  have HB : Hid _ := HB.out.alloc HB.out.size (.cells #[.int .i64 4294967296, .int .i64 0, .int .i64 0, .int .i64 0, .int .i64 4294967296, .int .i64 0, .int .i64 0, .int .i64 0, .int .i64 4294967296] 44)
  have hs0 : w.heap.size < p4 := by omega
  have hn0 : p4 ≠ w.heap.size := by omega
  have x0_0 := cell_after b3 x0_0
  have x0_1 := cell_after b3 x0_1
  have x0_2 := cell_after b3 x0_2
  have x1_0 := cell_after b3 x1_0
  have x1_1 := cell_after b3 x1_1
  have x1_2 := cell_after b3 x1_2
  have x2_0 := cell_after b3 x2_0
  have x2_1 := cell_after b3 x2_1
  have x2_2 := cell_after b3 x2_2
  have x2_3 := cell_after b3 x2_3
  have f := frozen_after b3 c f
  have c := cell_after b3 c
  go_wp2_with (fail)
  rw [← hp4]
  refine (vunit_law w.heap.size 0 false 0 0 0 _ c f).mono ?_
  clear b3
  rintro e W5 ⟨v0, v1, v2, g, rfl, S, A⟩
  obtain ⟨rfl, rfl, rfl, rfl⟩ : v0 = 0 ∧ v1 = 0 ∧ v2 = 0 ∧ g = true := ⟨S.out.1, S.out.2.1, S.out.2.2.1, S.out.2.2.2⟩
  clear S
  have HB : Hid _ := A.out.on HB.out (Nat.le_refl _)
  have c := A.out.cell
  have f := A.out.frozen
  have x0_0 := A.out.cellOf x0_0 (by show p1 ≠ _; omega)
  have x0_1 := A.out.cellOf x0_1 (by show p1 ≠ _; omega)
  have x0_2 := A.out.cellOf x0_2 (by show p1 ≠ _; omega)
  have x1_0 := A.out.cellOf x1_0 (by show p2 ≠ _; omega)
  have x1_1 := A.out.cellOf x1_1 (by show p2 ≠ _; omega)
  have x1_2 := A.out.cellOf x1_2 (by show p2 ≠ _; omega)
  have x2_0 := A.out.cellOf x2_0 (by show p3 ≠ _; omega)
  have x2_1 := A.out.cellOf x2_1 (by show p3 ≠ _; omega)
  have x2_2 := A.out.cellOf x2_2 (by show p3 ≠ _; omega)
  have x2_3 := A.out.cellOf x2_3 (by show p3 ≠ _; omega)
  have x3_0 := A.out.cellOf x3_0 (by show p4 ≠ _; omega)
  have x3_1 := A.out.cellOf x3_1 (by show p4 ≠ _; omega)
  have x3_2 := A.out.cellOf x3_2 (by show p4 ≠ _; omega)
  have x3_3 := A.out.cellOf x3_3 (by show p4 ≠ _; omega)
  have x3_4 := A.out.cellOf x3_4 (by show p4 ≠ _; omega)
  have x3_5 := A.out.cellOf x3_5 (by show p4 ≠ _; omega)
  have x3_6 := A.out.cellOf x3_6 (by show p4 ≠ _; omega)
  have x3_7 := A.out.cellOf x3_7 (by show p4 ≠ _; omega)
  have x3_8 := A.out.cellOf x3_8 (by show p4 ≠ _; omega)
  have hs := A.out.size
  clear A hp4
  have hs : w.heap.size < W5.heap.size := World.block_lt_of_cell? _ _ c
  go_wp2_with (fail)
  go_ret
  exact ⟨rfl, HB.out.alloc HB.out.size _⟩

end Go.Proofs.Ytioailboehpcaaa
