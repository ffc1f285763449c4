/- The examples of the first chapter. -/
import Derived.Test.YtbjjpccaiciahaaLaw
namespace Go.Proofs.Ytbjjpccaiciahaa
open Go.RowKit Fx

theorem root_two : root 8589934592 = some 6074000999 := by
  have h : ((isq (8589934592 * 4294967296 : Int).toNat : Nat) : Int) = 6074000999 := (isq_of (by omega) (by decide) (by decide)).symm
  unfold root
  rw [if_neg (by omega), if_neg (by decide), h]
  decide

set_option maxHeartbeats 1000000 in
theorem awake_any (w : World) : Calls Try.prog 9 #[] w fun e w' => e = .returned (.bool true) ∧ Below w.heap.size w w' := by
  go_enter Try.func9, Try.ntmps9
  go_wp2_with (fail)
  refine (mul_law w.heap.size 0 false _ _ _ (by simp) (by simp)).mono ?_
  rintro e W1 ⟨v, g, rfl, S, A1⟩
  obtain ⟨rfl, rfl⟩ : v = 25769803776 ∧ g = false := ⟨S.out.1, S.out.2⟩
  have c1 := A1.out.cell
  have f1 := A1.out.frozen
  clear S
  go_wp2_with (fail)
  refine (mul_law w.heap.size 0 false _ _ _ c1 f1).mono ?_
  rintro e W2 ⟨v, g, rfl, S, A2⟩
  obtain ⟨rfl, rfl⟩ : v = -1 ∧ g = false := ⟨S.out.1, S.out.2⟩
  have c2 := A2.out.cell
  have f2 := A2.out.frozen
  clear S
  go_wp2_with (fail)
  refine (div_law w.heap.size 0 false _ _ _ c2 f2).mono ?_
  rintro e W3 ⟨v, g, rfl, S, A3⟩
  obtain ⟨rfl, rfl⟩ : v = 1431655765 ∧ g = false := ⟨S.out.1, S.out.2⟩
  have c3 := A3.out.cell
  have f3 := A3.out.frozen
  clear S
  go_wp2_with (fail)
  refine (root_law w.heap.size 0 false _ _ c3 f3).mono ?_
  rintro e W4 ⟨v, g, rfl, S, A4⟩
  obtain ⟨rfl, rfl⟩ : v = 6074000999 ∧ g = false := by have := S.out; rw [root_two] at this; exact this
  have c4 := A4.out.cell
  have f4 := A4.out.frozen
  clear S
  go_wp2_with (fail)
  refine (norm2_law w.heap.size 0 false _ _ _ c4 f4).mono ?_
  rintro e W5 ⟨v, g, rfl, S, A5⟩
  obtain ⟨rfl, rfl⟩ : v = 5 ∧ g = false := ⟨S.out.1, S.out.2⟩
  have c5 := A5.out.cell
  have f5 := A5.out.frozen
  clear S
  go_wp2_with (fail)
  refine (div_law w.heap.size 0 false _ _ _ c5 f5).mono ?_
  rintro e W6 ⟨v, g, rfl, S, A6⟩
  obtain ⟨rfl, rfl⟩ : v = 0 ∧ g = true := ⟨S.out.1, S.out.2⟩
  have c6 := A6.out.cell
  have f6 := A6.out.frozen
  clear S
  go_wp2_with (fail)
  refine (add_law w.heap.size 0 true _ _ _ c6 f6).mono ?_
  rintro e W7 ⟨v, g, rfl, S, A7⟩
  obtain ⟨rfl, rfl⟩ : v = 2 ∧ g = true := ⟨S.out.1, S.out.2⟩
  have c7 := A7.out.cell
  have f7 := A7.out.frozen
  clear S
  go_wp2_with (fail)
  go_ret
  have B1 := A1.out.on (new_after w _) (Nat.le_refl _)
  have B2 := A2.out.on B1 (Nat.le_refl _)
  have B3 := A3.out.on B2 (Nat.le_refl _)
  have B4 := A4.out.on B3 (Nat.le_refl _)
  have B5 := A5.out.on B4 (Nat.le_refl _)
  have B6 := A6.out.on B5 (Nat.le_refl _)
  exact ⟨rfl, A7.out.on B6 (Nat.le_refl _)⟩
end Go.Proofs.Ytbjjpccaiciahaa
