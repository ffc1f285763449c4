/- Inertia: package shape's calls. -/
import Derived.Test.YtiicpdlaaklahaaShJ
import Derived.Test.YtiicpdlaaklahaaLaw
import Derived.Test.YtiicpdlaaklahaaSMass
namespace Go.Proofs.Ytiicpdlaaklahaa
open Go.RowKit Go.Shelf Fx
set_option linter.unusedVariables false

theorem mul_ok (b : Nat) (x y n : Int) (W : World) (hc : W.cell? ⟨b, 0, none⟩ = some (.bool false)) (hf : W.frozen? ⟨b, 0, none⟩ = false) (h : mul x y = some n) :
    Calls Try.prog 71 #[.pointer (some ⟨b, 0, none⟩), .int .i64 x, .int .i64 y] W fun e W' => e = .returned (.int .i64 n) ∧ Below W.heap.size W W' := by
  have := mul_any b 0 false x y W hc hf
  rw [h] at this
  exact this.mono fun _ _ ⟨a, k⟩ => ⟨a, k⟩
theorem add_ok (b : Nat) (x y n : Int) (W : World) (hc : W.cell? ⟨b, 0, none⟩ = some (.bool false)) (hf : W.frozen? ⟨b, 0, none⟩ = false) (h : add x y = some n) :
    Calls Try.prog 73 #[.pointer (some ⟨b, 0, none⟩), .int .i64 x, .int .i64 y] W fun e W' => e = .returned (.int .i64 n) ∧ Below W.heap.size W W' := by
  have := add_any b 0 false x y W hc hf
  rw [h] at this
  exact this.mono fun _ _ ⟨a, k⟩ => ⟨a, k⟩
theorem ratio_ok (b : Nat) (x y z n : Int) (W : World) (hc : W.cell? ⟨b, 0, none⟩ = some (.bool false)) (hf : W.frozen? ⟨b, 0, none⟩ = false) (h : ratio x y z = some n) :
    Calls Try.prog 70 #[.pointer (some ⟨b, 0, none⟩), .int .i64 x, .int .i64 y, .int .i64 z] W fun e W' => e = .returned (.int .i64 n) ∧ Below W.heap.size W W' := by
  have := ratio_any b 0 false x y z W hc hf
  rw [h] at this
  exact this.mono fun _ _ ⟨a, k⟩ => ⟨a, k⟩
set_option maxHeartbeats 1000000 in
set_option maxRecDepth 100000 in
theorem ball_any (b : Nat) (r m : Int) (w0 : World) (hc : w0.cell? ⟨b, 0, none⟩ = some (.bool false)) (hf : w0.frozen? ⟨b, 0, none⟩ = false) (h0 : 0 ≤ r) (h1 : r ≤ 137438953472) (m0 : 0 ≤ m) (m1 : m ≤ 1099511627776) :
    Calls Try.prog 56 #[.pointer (some ⟨b, 0, none⟩), .int .i64 r, .int .i64 m] w0 fun e W => e = .returned (.agg #[.int .i64 (ballI m r), .int .i64 (ballI m r), .int .i64 (ballI m r)]) ∧ Below w0.heap.size w0 W := by
  have M1 : Hid _ := mul_sq h0 h1
  have M2 : Hid _ := mul_sqM m0 m1 h0 h1
  have hq := sqM_in m0 m1 h0 h1
  have M3 : Hid (ratio (sqM m r) 2 5 = some (ballI m r)) := ratio_ball hq.1 hq.2
  generalize ballI m r = n3 at *
  generalize sqM m r = n2 at *
  generalize r * r / 4294967296 = n1 at *
  have bx : Hid (Box3 (w0.alloc (.cells #[.int .i64 0, .int .i64 0, .int .i64 0] 34)) w0.heap.size Pt.O) := Box3.new w0 0 0 0 _
  have hB : Hid (Below w0.heap.size w0 (w0.alloc (.cells #[.int .i64 0, .int .i64 0, .int .i64 0] 34))) := n_after w0 _
  have k1 : Hid _ := c_after hB.out hc
  have k2 : Hid _ := f_after hB.out hc hf
  clear hc hf hq
  go_enter Try.func56, Try.ntmps56
  go_wp2_with (fail)
  refine Calls.mono (mul_ok b r r n1 _ k1.out k2.out M1.out) ?_
  rintro e V1 ⟨rfl, hb⟩
  have bx : Hid _ := bx.out.step hb
  have hB : Hid _ := b_step hB.out hb
  have k2 : Hid _ := f_after hb k1.out k2.out
  have k1 : Hid _ := c_after hb k1.out
  clear hb
  go_wp2_with (fail)
  refine Calls.mono (mul_ok b m n1 n2 _ k1.out k2.out M2.out) ?_
  rintro e V2 ⟨rfl, hb⟩
  have bx : Hid _ := bx.out.step hb
  have hB : Hid _ := b_step hB.out hb
  have k2 : Hid _ := f_after hb k1.out k2.out
  have k1 : Hid _ := c_after hb k1.out
  clear hb
  go_wp2_with (fail)
  refine Calls.mono (ratio_ok b n2 2 5 n3 _ k1.out k2.out M3.out) ?_
  rintro e V3 ⟨rfl, hb⟩
  have bx := bx.out.step hb
  have hB : Hid _ := b_step hB.out hb
  clear hb
  obtain ⟨c0, c1, c2, f0, f1, f2⟩ := bx
  simp only [Pt.O] at c0 c1 c2
  go_wp2_with (fail)
  refine bodyPost_ret (v := .agg #[.int .i64 n3, .int .i64 n3, .int .i64 n3]) (by simp [results, Try.results56, go_sem, c0, c1, c2]) rfl ⟨rfl, ?_⟩
  exact set3_below hB.out (Nat.le_refl _) _ _ _
def maxI (n a : Int) : Int := if a > n then a else n
def minI (n a : Int) : Int := if a < n then a else n
set_option maxHeartbeats 1000000 in
theorem atLeast_any (x y z n : Int) (w : World) :
    Calls Try.prog 30 #[.agg #[.int .i64 x, .int .i64 y, .int .i64 z], .int .i64 n] w fun e W => e = .returned (.agg #[.int .i64 (maxI x n), .int .i64 (maxI y n), .int .i64 (maxI z n)]) ∧ Below w.heap.size w W := by
  unfold maxI
  generalize e1 : (if n > x then n else x) = a
  generalize e2 : (if n > y then n else y) = b
  generalize e3 : (if n > z then n else z) = c
  go_enter Try.func30, Try.ntmps30
  go_wp2
  exact bodyPost_ret (v := .agg #[.int .i64 a, .int .i64 b, .int .i64 c]) (by simp [results, Try.results30, go_sem]) rfl ⟨rfl, b_step (n_after w _) (n_after _ _)⟩
end Go.Proofs.Ytiicpdlaaklahaa
