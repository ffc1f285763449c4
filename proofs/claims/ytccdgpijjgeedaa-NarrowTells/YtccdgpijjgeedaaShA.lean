/- Package shape's small functions of points. -/
import Derived.Test.YtccdgpijjgeedaaPtA
import Derived.Test.YtccdgpijjgeedaaSMath3
namespace Go.Proofs.Ytccdgpijjgeedaa
open Go.RowKit Go.Shelf
set_option linter.unusedVariables false

theorem between_any (n a b : Int) (w : World) :
    Calls Try.prog 105 #[.int .i64 n, .int .i64 a, .int .i64 b] w fun e w' => e = .returned (.bool (decide (a ≤ n ∧ n ≤ b))) ∧ w' = w := by
  by_cases h1 : a ≤ n
  · go_enter Try.func105, Try.ntmps105
    go_wp2
    go_ret
    exact ⟨by simp [h1], rfl⟩
  · go_enter Try.func105, Try.ntmps105
    go_wp2
    go_ret
    exact ⟨by simp; omega, rfl⟩

theorem prod_in {x y A B : Int} (hx : -A ≤ x ∧ x ≤ A) (hy : -B ≤ y ∧ y ≤ B) (h : A * B ≤ 1152921504606846976) : -1152921504606846976 ≤ x * y ∧ x * y ≤ 1152921504606846976 := by
  have := mul_in hx hy
  omega
set_option maxHeartbeats 1000000 in
theorem divided_any (p : Pt) (n : Int) (w : World) (hp : p.inB 1152921504606846976 = true) (hn : 0 < n) (hn' : n ≤ 1152921504606846976):
    Calls Try.prog 97 #[p.v, .int .i64 n] w fun e W => e = .returned (p.by n).v ∧ Below w.heap.size w W := by
  obtain ⟨x, y, z⟩ := p
  rw [Pt.inB_iff] at hp
  unfold Pt.v Pt.by
  dsimp only at *
  go_enter Try.func97, Try.ntmps97
  go_wp2
  go_region
  go_wp2
  exact bodyPost_ret (v := .agg #[.int .i64 (x.tdiv n), .int .i64 (y.tdiv n), .int .i64 (z.tdiv n)]) (by simp [results, Try.results97, go_sem]) rfl ⟨rfl, (((Below.refl _ w).alloc (Nat.le_refl _) _).alloc (by simp) _).drew⟩
set_option maxHeartbeats 1000000 in
theorem within_any (p : Pt) (m : Int) (w : World) (hm : 0 ≤ m) (hm' : m ≤ 1152921504606846976) :
    Calls Try.prog 95 #[p.v, .int .i64 m] w fun e W => e = .returned (.bool (p.inB m)) ∧ Below w.heap.size w W := by
  obtain ⟨x, y, z⟩ := p
  have HE : Hid (∀ b : Bool, (b = true ↔ (-m ≤ x ∧ x ≤ m) ∧ (-m ≤ y ∧ y ≤ m) ∧ (-m ≤ z ∧ z ≤ m)) → Pt.inB ⟨x, y, z⟩ m = b) := fun b h => by
    rw [Bool.eq_iff_iff, h, Pt.inB_iff]
  unfold Pt.v
  go_enter Try.func95, Try.ntmps95
  go_wp2
  all_goals
    go_ret
    exact ⟨congrArg (fun b => Ending.returned (.bool b)) (HE.out _ ⟨fun h => by first | (cases h; done) | omega | (have h' := of_decide_eq_true h; omega), fun h => by first | rfl | (exfalso; omega) | exact decide_eq_true (by omega)⟩).symm, n_after w _⟩
theorem gcd_step {x y : Int} (h : y ≠ 0) : Nat.gcd y.natAbs (x.tmod y).natAbs = Nat.gcd x.natAbs y.natAbs := by
  rw [Int.natAbs_tmod, Nat.gcd_comm x.natAbs, Nat.gcd_rec y.natAbs x.natAbs, Nat.gcd_comm]
theorem tmod_lt {x y : Int} (h : y ≠ 0) : (x.tmod y).natAbs < y.natAbs := by
  rw [Int.natAbs_tmod]; exact Nat.mod_lt _ (by omega)
set_option maxHeartbeats 1000000 in
theorem gcd_any (a b : Int) (w : World) (ha : -1152921504606846976 ≤ a ∧ a ≤ 1152921504606846976) (hb : -1152921504606846976 ≤ b ∧ b ≤ 1152921504606846976) :
    Calls Try.prog 106 #[.int .i64 a, .int .i64 b] w fun e W => e = .returned (.int .i64 (Nat.gcd a.natAbs b.natAbs : Nat)) ∧ Below w.heap.size w W := by
  go_enter Try.func106, Try.ntmps106
  go_wp2
  go_loopw [0, 1] (fun s t wr => ∃ x y : Int, s = .int .i64 x ∧ t = .int .i64 y ∧ (-1152921504606846976 ≤ x ∧ x ≤ 1152921504606846976) ∧ (-1152921504606846976 ≤ y ∧ y ≤ 1152921504606846976) ∧ Hid (Nat.gcd x.natAbs y.natAbs = Nat.gcd a.natAbs b.natAbs) ∧ Hid (Below w.heap.size w wr)) (fun _ t _ => (intOf t).natAbs)
  case atStart => exact ⟨a, b, rfl, rfl, ha, hb, rfl, Below.refl _ _⟩
  case round =>
    obtain ⟨x, y, rfl, rfl, hx, hy, HG, HB⟩ := hrel
    by_cases h0 : y = 0
    · subst h0
      have HE : Hid (((Nat.gcd a.natAbs b.natAbs : Nat) : Int) = if x < -x then -x else x) := by
        show _ = _
        rw [← HG.out]
        simp only [Int.natAbs_zero, Nat.gcd_zero_right]
        split <;> omega
      clear HG
      rcases Int.lt_trichotomy x 0 with h | h | h
      · go_wp2
        go_ret
        refine ⟨?_, HB.out⟩
        rw [HE.out]
        exact congrArg (fun n => Ending.returned (.int .i64 n)) (by rw [if_pos (by omega)])
      · subst h
        go_wp2
        go_ret
        exact ⟨by rw [HE.out]; rfl, HB.out⟩
      · go_wp2
        go_ret
        refine ⟨?_, HB.out⟩
        rw [HE.out]
        exact congrArg (fun n => Ending.returned (.int .i64 n)) (by rw [if_neg (by omega)])
    · have HS : Hid _ := gcd_step (x := x) h0
      have hlt := tmod_lt (x := x) h0
      go_wp2
      go_region
      go_wp2
      go_roundw
      case rel => exact ⟨y, x.tmod y, rfl, rfl, hy, by omega, HS.out.trans HG.out, HB.out.drew⟩
      case measure => exact hlt
end Go.Proofs.Ytccdgpijjgeedaa
