/- Inertia: plain numbers. -/
import Derived.Test.YtccdgpijjgeedaaKSMath
import Derived.Test.YtccdgpijjgeedaaKBits
import Derived.Test.YtccdgpijjgeedaaKShJ
import Derived.Test.YtccdgpijjgeedaaKWork
import Derived.Test.YtccdgpijjgeedaaKRShB
namespace Go.Proofs.Ytccdgpijjgeedaa
set_option linter.unusedVariables false
open Fx

def sqM (m h : Int) : Int := m * (h * h / 4294967296) / 4294967296
def ballI (m r : Int) : Int := sqM m r * 2 / 5
def boxI (m b c : Int) : Int := (sqM m b + sqM m c) / 3
theorem sq_in {h : Int} (h0 : 0 ≤ h) (h1 : h ≤ 137438953472) : 0 ≤ h * h ∧ h * h ≤ 18889465931478580854784 ∧ 0 ≤ h * h / 4294967296 ∧ h * h / 4294967296 ≤ 4398046511104 := by
  have a := Int.mul_nonneg h0 h0
  have b := Int.mul_le_mul h1 h1 h0 (by decide)
  have : (137438953472 : Int) * 137438953472 = 18889465931478580854784 := by decide
  generalize h * h = q at *
  omega
theorem sqM_in {m h : Int} (m0 : 0 ≤ m) (m1 : m ≤ 1099511627776) (h0 : 0 ≤ h) (h1 : h ≤ 137438953472) : 0 ≤ sqM m h ∧ sqM m h ≤ 1125899906842624 := by
  obtain ⟨_, _, a, b⟩ := sq_in h0 h1
  unfold sqM
  generalize h * h / 4294967296 = q at *
  have c := Int.mul_nonneg m0 a
  have d := Int.mul_le_mul m1 b a (by decide)
  have : (1099511627776 : Int) * 4398046511104 = 4835703278458516698824704 := by decide
  generalize m * q = s at *
  omega
theorem great_no {n : Int} (h : 0 ≤ n) (k : n ≤ 4611686018427387903) : great n = false := by unfold great; simp; omega
theorem told_some {n : Int} (h : 0 ≤ n) (k : n ≤ 4611686018427387903) : told n = some n := by unfold told; rw [great_no h k]; rfl
theorem mul_sq {h : Int} (h0 : 0 ≤ h) (h1 : h ≤ 137438953472) : mul h h = some (h * h / 4294967296) := by
  obtain ⟨_, _, a, b⟩ := sq_in h0 h1
  unfold mul
  rw [great_no h0 (by omega)]
  simp only [Bool.or_self, Bool.false_eq_true, if_false]
  exact told_some a (by omega)
theorem mul_sqM {m h : Int} (m0 : 0 ≤ m) (m1 : m ≤ 1099511627776) (h0 : 0 ≤ h) (h1 : h ≤ 137438953472) : mul m (h * h / 4294967296) = some (sqM m h) := by
  obtain ⟨_, _, a, b⟩ := sq_in h0 h1
  obtain ⟨c, d⟩ := sqM_in m0 m1 h0 h1
  unfold mul
  rw [great_no m0 (by omega), great_no a (by omega)]
  simp only [Bool.or_self, Bool.false_eq_true, if_false]
  exact told_some (n := sqM m h) c (by omega)
theorem ratio_ball {s : Int} (h0 : 0 ≤ s) (h1 : s ≤ 1125899906842624) : ratio s 2 5 = some (s * 2 / 5) := by
  unfold ratio
  rw [great_no h0 (by omega), great_no (n := 2) (by omega) (by omega), great_no (n := 5) (by omega) (by omega)]
  simp only [Bool.or_self, Bool.false_eq_true, if_false]
  rw [show Fx.fl (s * 2) 5 = s * 2 / 5 by simp [Fx.fl]]
  exact told_some (by omega) (by omega)
theorem add_box {a b : Int} (h0 : 0 ≤ a) (h1 : a ≤ 1125899906842624) (k0 : 0 ≤ b) (k1 : b ≤ 1125899906842624) : add a b = some (a + b) := by
  unfold add
  rw [great_no h0 (by omega), great_no k0 (by omega)]
  simp only [Bool.or_self, Bool.false_eq_true, if_false]
  exact told_some (by omega) (by omega)
theorem ratio_box {s : Int} (h0 : 0 ≤ s) (h1 : s ≤ 2251799813685248) : ratio s 1 3 = some (s / 3) := by
  unfold ratio
  rw [great_no h0 (by omega), great_no (n := 1) (by omega) (by omega), great_no (n := 3) (by omega) (by omega)]
  simp only [Bool.or_self, Bool.false_eq_true, if_false]
  rw [show Fx.fl (s * 1) 3 = s / 3 by simp [Fx.fl]]
  exact told_some (by omega) (by omega)
theorem sqM_mono {m n h k : Int} (m0 : 0 ≤ m) (mn : m ≤ n) (h0 : 0 ≤ h) (hk : h ≤ k) : sqM m h ≤ sqM n k := by
  unfold sqM
  have a : h * h ≤ k * k := Int.mul_le_mul hk hk h0 (by omega)
  have a0 : 0 ≤ h * h := Int.mul_nonneg h0 h0
  have b : h * h / 4294967296 ≤ k * k / 4294967296 := Int.ediv_le_ediv (by decide) a
  have b0 : 0 ≤ h * h / 4294967296 := by omega
  exact Int.ediv_le_ediv (by decide) (Int.mul_le_mul mn b b0 (by omega))
end Go.Proofs.Ytccdgpijjgeedaa
/- Inertia: package shape's calls. -/
namespace Go.Proofs.Ytccdgpijjgeedaa
open Go.RowKit Go.Shelf Fx
set_option linter.unusedVariables false

def maxI (n a : Int) : Int := if a > n then a else n
def minI (n a : Int) : Int := if a < n then a else n
end Go.Proofs.Ytccdgpijjgeedaa
/- Raw shapes made right, where they are no hulls. -/
namespace Go.Proofs.Ytccdgpijjgeedaa
open Go.RowKit Go.Shelf
set_option linter.unusedVariables false

def pickZ (c n : Int) : Int := (if c < 0 then -(c + 1) else c) % n
theorem pickZ_lo (c : Int) {n : Int} (hn : 0 < n) : 0 ≤ pickZ c n := Int.emod_nonneg _ (by omega)
theorem pickZ_hi (c : Int) {n : Int} (hn : 0 < n) : pickZ c n < n := Int.emod_lt_of_pos _ hn
theorem pick_any (c n : Int) (w : World) (hc : -9223372036854775808 ≤ c ∧ c ≤ 9223372036854775807) (hn : 0 < n) (hn' : n ≤ 9223372036854775807) :
    Calls Try.prog 59 #[.int .i64 c, .int .i64 n] w fun e w' => e = .returned (.int .i64 (pickZ c n)) ∧ w' = w := by
  unfold pickZ
  by_cases h : c < 0
  · have hb : 0 ≤ -(c + 1) := by omega
    have hb' : -(c + 1) ≤ 9223372036854775807 := by omega
    have hz : (n == 0) = false := beq_eq_false_iff_ne.2 (by omega)
    rw [if_pos h]
    go_enter Try.func59, Try.ntmps59
    go_wp2
    go_ret
    have e : (c + 1).tmod n = -(-(c + 1) % n) := by
      rw [← Int.tmod_eq_emod_of_nonneg hb, Int.neg_tmod, Int.neg_neg]
    exact ⟨by rw [e, Int.neg_neg]; rfl, rfl⟩
  · have hz : (n == 0) = false := beq_eq_false_iff_ne.2 (by omega)
    rw [if_neg h]
    go_enter Try.func59, Try.ntmps59
    go_wp2
    go_ret
    exact ⟨rfl, rfl⟩
theorem pick_below (c n : Int) (w : World) (hc : -9223372036854775808 ≤ c ∧ c ≤ 9223372036854775807) (hn : 0 < n) (hn' : n ≤ 9223372036854775807) :
    Calls Try.prog 59 #[.int .i64 c, .int .i64 n] w fun e w' => e = .returned (.int .i64 (pickZ c n)) ∧ Below w.heap.size w w' :=
  Calls.mono (pick_any c n w hc hn hn') (by rintro e w2 ⟨rfl, rfl⟩; exact ⟨rfl, Below.refl _ _⟩)
theorem arr6 {cs : Array Value} (h : cs.size = 6) : ∃ a b c d e f, cs = #[a, b, c, d, e, f] := by
  obtain ⟨l⟩ := cs
  match l, h with
  | [a, b, c, d, e, f], _ => exact ⟨a, b, c, d, e, f, rfl⟩
theorem pick_small (k : Int) (h0 : 0 ≤ k) (h1 : k < 3) : pickZ k 4 = k := by unfold pickZ; rw [if_neg (by omega)]; omega
set_option maxHeartbeats 2000000 in
set_option maxRecDepth 100000 in
theorem right_small (k r hx hy hz : Int) (o : Option Addr) (n c : Nat) (w0 : World) (hk0 : 0 ≤ k) (hk1 : k < 3) (br : -9223372036854775808 ≤ r ∧ r ≤ 9223372036854775807) (bx : -9223372036854775808 ≤ hx ∧ hx ≤ 9223372036854775807) (by_ : -9223372036854775808 ≤ hy ∧ hy ≤ 9223372036854775807) (bz : -9223372036854775808 ≤ hz ∧ hz ≤ 9223372036854775807) :
    Calls Try.prog 36 #[.agg #[.int .i64 k, .int .i64 r, .int .i64 hx, .int .i64 hy, .int .i64 hz, .slice o n c]] w0 fun e W => e = .returned (.agg #[.int .i64 (1 + k), .int .i64 (1 + pickZ r 16384), .int .i64 (1 + pickZ hx 65536), .int .i64 (1 + pickZ hy 65536), .int .i64 (1 + pickZ hz 65536), .slice none 0 0]) ∧ Below w0.heap.size w0 W := by
  have P1 : Hid (∀ w', Calls Try.prog 59 #[.int .i64 k, .int .i64 4] w' fun e W => e = .returned (.int .i64 k) ∧ W = w') := fun w' => by
    have := pick_any k 4 w' (by omega) (by decide) (by decide)
    rw [pick_small k hk0 hk1] at this; exact this
  have P2 : Hid _ := fun w' => pick_any r 16384 w' br (by decide) (by decide)
  have P3 : Hid _ := fun w' => pick_below hx 65536 w' bx (by decide) (by decide)
  have P4 : Hid _ := fun w' => pick_below hy 65536 w' by_ (by decide) (by decide)
  have P5 : Hid _ := fun w' => pick_below hz 65536 w' bz (by decide) (by decide)
  have l2 := pickZ_lo r (n := 16384) (by decide)
  have u2 := pickZ_hi r (n := 16384) (by decide)
  have l3 := pickZ_lo hx (n := 65536) (by decide)
  have u3 := pickZ_hi hx (n := 65536) (by decide)
  have l4 := pickZ_lo hy (n := 65536) (by decide)
  have u4 := pickZ_hi hy (n := 65536) (by decide)
  have l5 := pickZ_lo hz (n := 65536) (by decide)
  have u5 := pickZ_hi hz (n := 65536) (by decide)
  generalize pickZ r 16384 = pr at *
  generalize pickZ hx 65536 = px at *
  generalize pickZ hy 65536 = py at *
  generalize pickZ hz 65536 = pz at *
  have n1 : IntKind.i64.wrap (1 + k) = 1 + k := by rw [IntKind.wrap_i64]; omega
  have n2 : IntKind.i64.wrap (1 + pr) = 1 + pr := by rw [IntKind.wrap_i64]; omega
  have n3 : IntKind.i64.wrap (1 + px) = 1 + px := by rw [IntKind.wrap_i64]; omega
  have n4 : IntKind.i64.wrap (1 + py) = 1 + py := by rw [IntKind.wrap_i64]; omega
  have n5 : IntKind.i64.wrap (1 + pz) = 1 + pz := by rw [IntKind.wrap_i64]; omega
  clear br bx by_ bz
  go_enter Try.func36, Try.ntmps36
  go_upto_region 1 with fail
  obtain ⟨V, hV⟩ : ∃ V : World, V = (w0.alloc (.cells #[.int .i64 k, .int .i64 r, .int .i64 hx, .int .i64 hy, .int .i64 hz, .slice o n c] 37)).alloc (.cells #[.int .i64 0, .int .i64 0, .int .i64 0, .int .i64 0, .int .i64 0, .slice none 0 0] 68) := ⟨_, rfl⟩
  have hD : Hid (Below w0.heap.size w0 V) := by rw [hV]; exact b_step (n_after w0 _) (n_after _ _)
  have C1 : Hid (Cells V w0.heap.size [.int .i64 k, .int .i64 r, .int .i64 hx, .int .i64 hy, .int .i64 hz, .slice o n c]) := by rw [hV]; exact Cells.step (Cells.new w0 [.int .i64 k, .int .i64 r, .int .i64 hx, .int .i64 hy, .int .i64 hz, .slice o n c] _) (n_after _ _)
  have C2 : Hid (Cells V (w0.heap.size + 1) [.int .i64 0, .int .i64 0, .int .i64 0, .int .i64 0, .int .i64 0, .slice none 0 0]) := by rw [hV]; have := Cells.new (w0.alloc (.cells #[.int .i64 k, .int .i64 r, .int .i64 hx, .int .i64 hy, .int .i64 hz, .slice o n c] 37)) [.int .i64 0, .int .i64 0, .int .i64 0, .int .i64 0, .int .i64 0, .slice none 0 0] 68; rwa [World.size_alloc] at this
  rw [← hV]
  clear hV
  obtain ⟨ba, hba⟩ : ∃ ba, ba = w0.heap.size := ⟨_, rfl⟩
  obtain ⟨bs, hbs⟩ : ∃ bs, bs = w0.heap.size + 1 := ⟨_, rfl⟩
  have hsl : w0.heap.size ≤ bs := by omega
  rw [← hbs] at C2 ⊢
  rw [← hba] at C1 ⊢
  clear hba hbs
  have c0 := (C1.out 0 _ rfl).1
  have c1 := (C1.out 1 _ rfl).1
  refine RV.region_by (fun j v w => match j with | 0 => v = .pointer (some ⟨ba, 0, none⟩) | 1 => v = .int .i64 (k) | 2 => v = .int .i64 (k) | 3 => v = .int .i64 (1 + k) | 4 => v = .pointer (some ⟨ba, 1, none⟩) | 5 => v = .int .i64 (r) | 6 => v = .int .i64 (pr) | 7 => v = .int .i64 (1 + pr) | 8 => v = .agg #[.int .i64 (1 + k), .int .i64 (1 + pr), .int .i64 0, .int .i64 0, .int .i64 0, .slice none 0 0] | 9 => True | 10 => True | _ => True) (fun γ L w => Below V.heap.size V w ∧ RV.Pend V 68 9 10 #[.int .i64 (1 + k), .int .i64 (1 + pr), .int .i64 0, .int .i64 0, .int .i64 0, .slice none 0 0] γ L w) (by kernel_rfl) (by kernel_rfl) (by kernel_rfl) (by kernel_rfl) ?_ ?_ ?_
  · exact ⟨(Below.refl _ V).drew, RV.Pend.start rfl⟩
  · generalize hD : dstOf _ = D
    generalize hWA : waitsFor _ = WA
    generalize hZ : Act.mk _ _ = Z
    obtain ⟨R, hR⟩ : ∃ R : Nat → Value → World → Prop, R = (fun j v w => match j with | 0 => v = .pointer (some ⟨ba, 0, none⟩) | 1 => v = .int .i64 (k) | 2 => v = .int .i64 (k) | 3 => v = .int .i64 (1 + k) | 4 => v = .pointer (some ⟨ba, 1, none⟩) | 5 => v = .int .i64 (r) | 6 => v = .int .i64 (pr) | 7 => v = .int .i64 (1 + pr) | 8 => v = .agg #[.int .i64 (1 + k), .int .i64 (1 + pr), .int .i64 0, .int .i64 0, .int .i64 0, .slice none 0 0] | 9 => True | 10 => True | _ => True) := ⟨_, rfl⟩
    rw [← hR]
    have d0 : D 0 = some 6 := by rw [← hD]; rfl
    have d1 : D 1 = some 7 := by rw [← hD]; rfl
    have d2 : D 2 = some 8 := by rw [← hD]; rfl
    have d3 : D 3 = some 9 := by rw [← hD]; rfl
    have d4 : D 4 = some 10 := by rw [← hD]; rfl
    have d5 : D 5 = some 11 := by rw [← hD]; rfl
    have d6 : D 6 = some 12 := by rw [← hD]; rfl
    have d7 : D 7 = some 13 := by rw [← hD]; rfl
    have d8 : D 8 = some 14 := by rw [← hD]; rfl
    have d9 : D 9 = some 3 := by rw [← hD]; rfl
    have r0 : ∀ v w, R 0 v w = (v = .pointer (some ⟨ba, 0, none⟩)) := fun v w => by rw [hR]; rfl
    have r1 : ∀ v w, R 1 v w = (v = .int .i64 (k)) := fun v w => by rw [hR]; rfl
    have r2 : ∀ v w, R 2 v w = (v = .int .i64 (k)) := fun v w => by rw [hR]; rfl
    have r3 : ∀ v w, R 3 v w = (v = .int .i64 (1 + k)) := fun v w => by rw [hR]; rfl
    have r4 : ∀ v w, R 4 v w = (v = .pointer (some ⟨ba, 1, none⟩)) := fun v w => by rw [hR]; rfl
    have r5 : ∀ v w, R 5 v w = (v = .int .i64 (r)) := fun v w => by rw [hR]; rfl
    have r6 : ∀ v w, R 6 v w = (v = .int .i64 (pr)) := fun v w => by rw [hR]; rfl
    have r7 : ∀ v w, R 7 v w = (v = .int .i64 (1 + pr)) := fun v w => by rw [hR]; rfl
    have r8 : ∀ v w, R 8 v w = (v = .agg #[.int .i64 (1 + k), .int .i64 (1 + pr), .int .i64 0, .int .i64 0, .int .i64 0, .slice none 0 0]) := fun v w => by rw [hR]; rfl
    have r9 : ∀ v w, R 9 v w = (True) := fun v w => by rw [hR]; rfl
    have r10 : ∀ v w, R 10 v w = (True) := fun v w => by rw [hR]; rfl
    have E1 : ∀ (γ : Nat → Value) (L : Nat → Bool) (a : Act) (w : World), RV.Held D WA R (fun γ L w => Below V.heap.size V w ∧ RV.Pend V 68 9 10 #[.int .i64 (1 + k), .int .i64 (1 + pr), .int .i64 0, .int .i64 0, .int .i64 0, .slice none 0 0] γ L w) Z γ L a w → a.tmps[1]? = some (.pointer (some ⟨ba, 0, none⟩)) := fun γ L a w hH => (hH.rest 1 (by rw [← hD]; exact RV.dst_free (by kernel_rfl))).trans (by rw [← hZ]; rfl)
    have K : ∀ j v w w', R j v w → R j v w' := by rw [hR]; intro j v w w' h; exact h
    have A_10_9 : WA 10 9 := by rw [← hWA]; exact ⟨_, rfl, ⟨9, .data⟩, by simp, rfl, rfl⟩
    clear hD hWA hZ hR
    refine RV.AllDo.cons 0 (RV.does_pure (fun γ v L w hl h => ⟨h.1, h.2.other v (by decide) (by decide)⟩) (fun γ L a w hH hl hA => by have e0 := E1 γ L a w hH; exact ⟨.pointer (some ⟨ba, 0, none⟩), by simp [execOp, go_sem, e0], (r0 _ _).mpr rfl⟩)) ?_
    refine RV.AllDo.cons 1 (RV.does_pure (fun γ v L w hl h => ⟨h.1, h.2.other v (by decide) (by decide)⟩) (fun γ L a w hH hl hA => by have l0 : L 0 = true := hA ⟨0, .data⟩ (by simp) rfl; have e0 := hH.slot 0 6 d0 l0; have g0 := hH.holds 0 l0; rw [r0] at g0; rw [g0] at e0; have z0 := c_after hH.glob.1 c0; exact ⟨.int .i64 (k), by simp [execOp, go_sem, e0, z0], (r1 _ _).mpr rfl⟩)) ?_
    refine RV.AllDo.cons 2 (RV.does_call (fun γ L a w hH hl hA => by have l0 : L 1 = true := hA ⟨1, .data⟩ (by simp) rfl; have e0 := hH.slot 1 7 d1 l0; have g0 := hH.holds 1 l0; rw [r1] at g0; rw [g0] at e0; exact ⟨59, #[.int .i64 k, .int .i64 4], by simp [go_sem, e0], Calls.mono (P1.out w) (by rintro e w2 ⟨rfl, rfl⟩; exact ⟨_, rfl, (r2 _ _).mpr rfl, fun _ _ _ h => h, hH.glob.1, hH.glob.2.other _ (by decide) (by decide)⟩)⟩)) ?_
    refine RV.AllDo.cons 3 (RV.does_pure (fun γ v L w hl h => ⟨h.1, h.2.other v (by decide) (by decide)⟩) (fun γ L a w hH hl hA => by have l0 : L 2 = true := hA ⟨2, .data⟩ (by simp) rfl; have e0 := hH.slot 2 8 d2 l0; have g0 := hH.holds 2 l0; rw [r2] at g0; rw [g0] at e0; exact ⟨.int .i64 (1 + k), by simp [execOp, go_sem, e0, n1], (r3 _ _).mpr rfl⟩)) ?_
    refine RV.AllDo.cons 4 (RV.does_pure (fun γ v L w hl h => ⟨h.1, h.2.other v (by decide) (by decide)⟩) (fun γ L a w hH hl hA => by have e0 := E1 γ L a w hH; exact ⟨.pointer (some ⟨ba, 1, none⟩), by simp [execOp, go_sem, e0], (r4 _ _).mpr rfl⟩)) ?_
    refine RV.AllDo.cons 5 (RV.does_pure (fun γ v L w hl h => ⟨h.1, h.2.other v (by decide) (by decide)⟩) (fun γ L a w hH hl hA => by have l0 : L 4 = true := hA ⟨4, .data⟩ (by simp) rfl; have e0 := hH.slot 4 10 d4 l0; have g0 := hH.holds 4 l0; rw [r4] at g0; rw [g0] at e0; have z0 := c_after hH.glob.1 c1; exact ⟨.int .i64 (r), by simp [execOp, go_sem, e0, z0], (r5 _ _).mpr rfl⟩)) ?_
    refine RV.AllDo.cons 6 (RV.does_call (fun γ L a w hH hl hA => by have l0 : L 5 = true := hA ⟨5, .data⟩ (by simp) rfl; have e0 := hH.slot 5 11 d5 l0; have g0 := hH.holds 5 l0; rw [r5] at g0; rw [g0] at e0; exact ⟨59, #[.int .i64 r, .int .i64 16384], by simp [go_sem, e0], Calls.mono (P2.out w) (by rintro e w2 ⟨rfl, rfl⟩; exact ⟨_, rfl, (r6 _ _).mpr rfl, fun _ _ _ h => h, hH.glob.1, hH.glob.2.other _ (by decide) (by decide)⟩)⟩)) ?_
    refine RV.AllDo.cons 7 (RV.does_pure (fun γ v L w hl h => ⟨h.1, h.2.other v (by decide) (by decide)⟩) (fun γ L a w hH hl hA => by have l0 : L 6 = true := hA ⟨6, .data⟩ (by simp) rfl; have e0 := hH.slot 6 12 d6 l0; have g0 := hH.holds 6 l0; rw [r6] at g0; rw [g0] at e0; exact ⟨.int .i64 (1 + pr), by simp [execOp, go_sem, e0, n2], (r7 _ _).mpr rfl⟩)) ?_
    refine RV.AllDo.cons 8 (RV.does_pure (fun γ v L w hl h => ⟨h.1, h.2.other v (by decide) (by decide)⟩) (fun γ L a w hH hl hA => by have l0 : L 3 = true := hA ⟨3, .data⟩ (by simp) rfl; have e0 := hH.slot 3 9 d3 l0; have g0 := hH.holds 3 l0; rw [r3] at g0; rw [g0] at e0; have l1 : L 7 = true := hA ⟨7, .data⟩ (by simp) rfl; have e1 := hH.slot 7 13 d7 l1; have g1 := hH.holds 7 l1; rw [r7] at g1; rw [g1] at e1; exact ⟨.agg #[.int .i64 (1 + k), .int .i64 (1 + pr), .int .i64 0, .int .i64 0, .int .i64 0, .slice none 0 0], by simp [execOp, go_sem, e0, e1], (r8 _ _).mpr rfl⟩)) ?_
    refine RV.AllDo.cons 9 (RV.does_step (fun γ L a w hH hl hA => by have h10 : L 10 = false := RV.not_yet hH A_10_9 hl; exact ⟨.pointer (some ⟨w.heap.size, 0, none⟩), w.alloc (.cells #[.int .i64 0, .int .i64 0, .int .i64 0, .int .i64 0, .int .i64 0, .slice none 0 0] 68), by simp [execOp, go_sem], (r9 _ _).mpr trivial, fun j v _ h => K j v _ _ h, hH.glob.1.alloc hH.glob.1.size _, RV.Pend.made _ rfl hH.glob.1.size h10 (by decide)⟩)) ?_
    refine RV.AllDo.cons 10 (RV.does_store (fun γ L a w hH hl hA => by have l0 : L 9 = true := hA ⟨9, .data⟩ (by simp) rfl; have e0 := hH.slot 9 3 d9 l0; have g0 := hH.holds 9 l0; rw [r9] at g0; have l1 : L 8 = true := hA ⟨8, .data⟩ (by simp) rfl; have e1 := hH.slot 8 14 d8 l1; have g1 := hH.holds 8 l1; rw [r8] at g1; rw [g1] at e1; obtain ⟨b, cs, hb1, hb2, hb3, hb4, _⟩ := hH.glob.2 l0; rw [hb1] at e0; obtain ⟨u0, u1, u2, u3, u4, u5, rfl⟩ := arr6 hb4; have z0 : w.cell? ⟨b, 0, none⟩ = some u0 := (by simp [World.cell?, hb3]); have z1 : w.cell? ⟨b, 1, none⟩ = some u1 := (by simp [World.cell?, hb3]); have z2 : w.cell? ⟨b, 2, none⟩ = some u2 := (by simp [World.cell?, hb3]); have z3 : w.cell? ⟨b, 3, none⟩ = some u3 := (by simp [World.cell?, hb3]); have z4 : w.cell? ⟨b, 4, none⟩ = some u4 := (by simp [World.cell?, hb3]); have z5 : w.cell? ⟨b, 5, none⟩ = some u5 := (by simp [World.cell?, hb3]); have zf : ∀ o, w.frozen? ⟨b, o, none⟩ = false := fun o => (by simp [World.frozen?, hb3]); exact ⟨((((((w.setCell ⟨b, 0, none⟩ (.int .i64 (1 + k))).setCell ⟨b, 1, none⟩ (.int .i64 (1 + pr))).setCell ⟨b, 2, none⟩ (.int .i64 0)).setCell ⟨b, 3, none⟩ (.int .i64 0)).setCell ⟨b, 4, none⟩ (.int .i64 0)).setCell ⟨b, 5, none⟩ (.slice none 0 0)), by simp [execOp, go_sem, e0, e1, z0, z1, z2, z3, z4, z5, zf], (r10 _ _).mpr trivial, fun j v _ h => K j v _ _ h, (((((hH.glob.1.setCell hb2 _).setCell hb2 _).setCell hb2 _).setCell hb2 _).setCell hb2 _).setCell hb2 _, RV.Pend.filled hb1 hb2 (by have q0 := Go.heap_setCell_same w b 0 _ _ (.int .i64 (1 + k)) hb3; have q1 := Go.heap_setCell_same _ b 1 _ _ (.int .i64 (1 + pr)) q0; have q2 := Go.heap_setCell_same _ b 2 _ _ (.int .i64 0) q1; have q3 := Go.heap_setCell_same _ b 3 _ _ (.int .i64 0) q2; have q4 := Go.heap_setCell_same _ b 4 _ _ (.int .i64 0) q3; have q5 := Go.heap_setCell_same _ b 5 _ _ (.slice none 0 0) q4; simpa using q5) (by decide) _⟩)) ?_
    exact RV.AllDo.nil
  · intro γ a5 w5 L9 hL hLo hH
    have ha := RV.held_act hH hL (by kernel_rfl) (by kernel_rfl)
    obtain ⟨b3, cs, hb1, hb2, hb3, _, hb5⟩ := hH.glob.2 (hL 9 (by decide))
    rw [hb5 (hL 10 (by decide))] at hb3
    have hB5 := hH.glob.1
    rw [ha]
    clear ha hH hL hLo hb5
    simp only [RV.putAll, Act.put, List.setIfInBounds_toArray, List.set_cons_zero, List.set_cons_succ, Nat.zero_add, Nat.reduceAdd]
    rw [hb1]
    obtain ⟨X1, hX1⟩ : ∃ X : World, X = w5 := ⟨_, rfl⟩
    rw [← hX1] at hB5 hb3 ⊢
    have C3 : Hid (Cells X1 b3 [.int .i64 (1 + k), .int .i64 (1 + pr), .int .i64 0, .int .i64 0, .int .i64 0, .slice none 0 0]) := fun i v e => ⟨by simp [World.cell?, hb3]; exact e, by simp [World.frozen?, hb3]⟩
    have C1' : Hid (Cells X1 ba [.int .i64 k, .int .i64 r, .int .i64 hx, .int .i64 hy, .int .i64 hz, .slice o n c]) := Cells.step C1.out hB5
    have C2' : Hid (Cells X1 bs [.int .i64 0, .int .i64 0, .int .i64 0, .int .i64 0, .int .i64 0, .slice none 0 0]) := Cells.step C2.out hB5
    have hE : Hid _ := b_step hD.out hB5
    have hV2 : bs < V.heap.size := World.block_lt_of_cell? _ _ (C2.out 0 _ rfl).1
    have hV1 : ba < V.heap.size := World.block_lt_of_cell? _ _ (C1.out 0 _ rfl).1
    have hws := hD.out.size
    clear hX1 hb1 hb3 hB5 c0 c1 C1 C2 hD P1 P2
    go_upto_region 2 with fail
    have md2 := (C1'.out 2 _ rfl).1
    have md3 := (C1'.out 3 _ rfl).1
    have md4 := (C1'.out 4 _ rfl).1
    have s2 := (C3.out 2 _ rfl).1
    have s3 := (C3.out 3 _ rfl).1
    have s4 := (C3.out 4 _ rfl).1
    have t2 := (C3.out 2 _ rfl).2
    have t3 := (C3.out 3 _ rfl).2
    have t4 := (C3.out 4 _ rfl).2
    refine RV.region_by (fun j v w => match j with | 0 => v = .pointer (some ⟨ba, 2, none⟩) | 1 => v = .pointer (some ⟨ba, 2, none⟩) | 2 => v = .int .i64 (hx) | 3 => v = .int .i64 (px) | 4 => v = .int .i64 (1 + px) | 5 => v = .pointer (some ⟨ba, 2, none⟩) | 6 => v = .pointer (some ⟨ba, 3, none⟩) | 7 => v = .int .i64 (hy) | 8 => v = .int .i64 (py) | 9 => v = .int .i64 (1 + py) | 10 => v = .pointer (some ⟨ba, 2, none⟩) | 11 => v = .pointer (some ⟨ba, 4, none⟩) | 12 => v = .int .i64 (hz) | 13 => v = .int .i64 (pz) | 14 => v = .int .i64 (1 + pz) | 15 => v = .agg #[.int .i64 (1 + px), .int .i64 (1 + py), .int .i64 (1 + pz)] | 16 => v = .pointer (some ⟨b3, 2, none⟩) | 17 => True | _ => True) (fun γ L w9 => (L 17 = false ∧ Below X1.heap.size X1 w9) ∨ (L 17 = true ∧ ∃ w, Below X1.heap.size X1 w ∧ w9 = (((w.setCell ⟨b3, 2, none⟩ (.int .i64 (1 + px))).setCell ⟨b3, 2 + 1, none⟩ (.int .i64 (1 + py))).setCell ⟨b3, 2 + 2, none⟩ (.int .i64 (1 + pz))))) (by kernel_rfl) (by kernel_rfl) (by kernel_rfl) (by kernel_rfl) ?_ ?_ ?_
    · exact Or.inl ⟨rfl, (Below.refl _ X1).drew⟩
    · generalize hD : dstOf _ = D
      generalize hWA : waitsFor _ = WA
      generalize hZ : Act.mk _ _ = Z
      obtain ⟨R, hR⟩ : ∃ R : Nat → Value → World → Prop, R = (fun j v w => match j with | 0 => v = .pointer (some ⟨ba, 2, none⟩) | 1 => v = .pointer (some ⟨ba, 2, none⟩) | 2 => v = .int .i64 (hx) | 3 => v = .int .i64 (px) | 4 => v = .int .i64 (1 + px) | 5 => v = .pointer (some ⟨ba, 2, none⟩) | 6 => v = .pointer (some ⟨ba, 3, none⟩) | 7 => v = .int .i64 (hy) | 8 => v = .int .i64 (py) | 9 => v = .int .i64 (1 + py) | 10 => v = .pointer (some ⟨ba, 2, none⟩) | 11 => v = .pointer (some ⟨ba, 4, none⟩) | 12 => v = .int .i64 (hz) | 13 => v = .int .i64 (pz) | 14 => v = .int .i64 (1 + pz) | 15 => v = .agg #[.int .i64 (1 + px), .int .i64 (1 + py), .int .i64 (1 + pz)] | 16 => v = .pointer (some ⟨b3, 2, none⟩) | 17 => True | _ => True) := ⟨_, rfl⟩
      rw [← hR]
      have d0 : D 0 = some 15 := by rw [← hD]; rfl
      have d1 : D 1 = some 16 := by rw [← hD]; rfl
      have d2 : D 2 = some 17 := by rw [← hD]; rfl
      have d3 : D 3 = some 18 := by rw [← hD]; rfl
      have d4 : D 4 = some 19 := by rw [← hD]; rfl
      have d5 : D 5 = some 20 := by rw [← hD]; rfl
      have d6 : D 6 = some 21 := by rw [← hD]; rfl
      have d7 : D 7 = some 22 := by rw [← hD]; rfl
      have d8 : D 8 = some 23 := by rw [← hD]; rfl
      have d9 : D 9 = some 24 := by rw [← hD]; rfl
      have d10 : D 10 = some 25 := by rw [← hD]; rfl
      have d11 : D 11 = some 26 := by rw [← hD]; rfl
      have d12 : D 12 = some 27 := by rw [← hD]; rfl
      have d13 : D 13 = some 28 := by rw [← hD]; rfl
      have d14 : D 14 = some 29 := by rw [← hD]; rfl
      have d15 : D 15 = some 30 := by rw [← hD]; rfl
      have d16 : D 16 = some 31 := by rw [← hD]; rfl
      have r0 : ∀ v w, R 0 v w = (v = .pointer (some ⟨ba, 2, none⟩)) := fun v w => by rw [hR]; rfl
      have r1 : ∀ v w, R 1 v w = (v = .pointer (some ⟨ba, 2, none⟩)) := fun v w => by rw [hR]; rfl
      have r2 : ∀ v w, R 2 v w = (v = .int .i64 (hx)) := fun v w => by rw [hR]; rfl
      have r3 : ∀ v w, R 3 v w = (v = .int .i64 (px)) := fun v w => by rw [hR]; rfl
      have r4 : ∀ v w, R 4 v w = (v = .int .i64 (1 + px)) := fun v w => by rw [hR]; rfl
      have r5 : ∀ v w, R 5 v w = (v = .pointer (some ⟨ba, 2, none⟩)) := fun v w => by rw [hR]; rfl
      have r6 : ∀ v w, R 6 v w = (v = .pointer (some ⟨ba, 3, none⟩)) := fun v w => by rw [hR]; rfl
      have r7 : ∀ v w, R 7 v w = (v = .int .i64 (hy)) := fun v w => by rw [hR]; rfl
      have r8 : ∀ v w, R 8 v w = (v = .int .i64 (py)) := fun v w => by rw [hR]; rfl
      have r9 : ∀ v w, R 9 v w = (v = .int .i64 (1 + py)) := fun v w => by rw [hR]; rfl
      have r10 : ∀ v w, R 10 v w = (v = .pointer (some ⟨ba, 2, none⟩)) := fun v w => by rw [hR]; rfl
      have r11 : ∀ v w, R 11 v w = (v = .pointer (some ⟨ba, 4, none⟩)) := fun v w => by rw [hR]; rfl
      have r12 : ∀ v w, R 12 v w = (v = .int .i64 (hz)) := fun v w => by rw [hR]; rfl
      have r13 : ∀ v w, R 13 v w = (v = .int .i64 (pz)) := fun v w => by rw [hR]; rfl
      have r14 : ∀ v w, R 14 v w = (v = .int .i64 (1 + pz)) := fun v w => by rw [hR]; rfl
      have r15 : ∀ v w, R 15 v w = (v = .agg #[.int .i64 (1 + px), .int .i64 (1 + py), .int .i64 (1 + pz)]) := fun v w => by rw [hR]; rfl
      have r16 : ∀ v w, R 16 v w = (v = .pointer (some ⟨b3, 2, none⟩)) := fun v w => by rw [hR]; rfl
      have r17 : ∀ v w, R 17 v w = (True) := fun v w => by rw [hR]; rfl
      have E1 : ∀ (γ : Nat → Value) (L : Nat → Bool) (a : Act) (w : World), RV.Held D WA R (fun γ L w9 => (L 17 = false ∧ Below X1.heap.size X1 w9) ∨ (L 17 = true ∧ ∃ w, Below X1.heap.size X1 w ∧ w9 = (((w.setCell ⟨b3, 2, none⟩ (.int .i64 (1 + px))).setCell ⟨b3, 2 + 1, none⟩ (.int .i64 (1 + py))).setCell ⟨b3, 2 + 2, none⟩ (.int .i64 (1 + pz))))) Z γ L a w → a.tmps[1]? = some (.pointer (some ⟨ba, 0, none⟩)) := fun γ L a w hH => (hH.rest 1 (by rw [← hD]; exact RV.dst_free (by kernel_rfl))).trans (by rw [← hZ]; rfl)
      have E3 : ∀ (γ : Nat → Value) (L : Nat → Bool) (a : Act) (w : World), RV.Held D WA R (fun γ L w9 => (L 17 = false ∧ Below X1.heap.size X1 w9) ∨ (L 17 = true ∧ ∃ w, Below X1.heap.size X1 w ∧ w9 = (((w.setCell ⟨b3, 2, none⟩ (.int .i64 (1 + px))).setCell ⟨b3, 2 + 1, none⟩ (.int .i64 (1 + py))).setCell ⟨b3, 2 + 2, none⟩ (.int .i64 (1 + pz))))) Z γ L a w → a.tmps[3]? = some (.pointer (some ⟨b3, 0, none⟩)) := fun γ L a w hH => (hH.rest 3 (by rw [← hD]; exact RV.dst_free (by kernel_rfl))).trans (by rw [← hZ]; rfl)
      have K : ∀ j v w w', R j v w → R j v w' := by rw [hR]; intro j v w w' h; exact h
      have A_17_2 : WA 17 2 := by rw [← hWA]; exact ⟨_, rfl, ⟨2, .phase⟩, by simp, rfl, rfl⟩
      have A_17_3 : WA 17 3 := by rw [← hWA]; exact ⟨_, rfl, ⟨3, .phase⟩, by simp, rfl, rfl⟩
      have A_17_7 : WA 17 7 := by rw [← hWA]; exact ⟨_, rfl, ⟨7, .phase⟩, by simp, rfl, rfl⟩
      have A_17_8 : WA 17 8 := by rw [← hWA]; exact ⟨_, rfl, ⟨8, .phase⟩, by simp, rfl, rfl⟩
      have A_17_12 : WA 17 12 := by rw [← hWA]; exact ⟨_, rfl, ⟨12, .phase⟩, by simp, rfl, rfl⟩
      have A_17_13 : WA 17 13 := by rw [← hWA]; exact ⟨_, rfl, ⟨13, .phase⟩, by simp, rfl, rfl⟩
      clear hD hWA hZ hR
      refine RV.AllDo.cons 0 (RV.does_pure (fun γ v L w hl h => by rw [RV.more_ne (L := L) (i := 0) (j := 17) (by decide)]; exact h) (fun γ L a w hH hl hA => by have e0 := E1 γ L a w hH; exact ⟨.pointer (some ⟨ba, 2, none⟩), by simp [execOp, go_sem, e0], (r0 _ _).mpr rfl⟩)) ?_
      refine RV.AllDo.cons 1 (RV.does_pure (fun γ v L w hl h => by rw [RV.more_ne (L := L) (i := 1) (j := 17) (by decide)]; exact h) (fun γ L a w hH hl hA => by have l0 : L 0 = true := hA ⟨0, .data⟩ (by simp) rfl; have e0 := hH.slot 0 15 d0 l0; have g0 := hH.holds 0 l0; rw [r0] at g0; rw [g0] at e0; exact ⟨.pointer (some ⟨ba, 2, none⟩), by simp [execOp, go_sem, e0], (r1 _ _).mpr rfl⟩)) ?_
      refine RV.AllDo.cons 2 (RV.does_pure (fun γ v L w hl h => by rw [RV.more_ne (L := L) (i := 2) (j := 17) (by decide)]; exact h) (fun γ L a w hH hl hA => by have l0 : L 1 = true := hA ⟨1, .data⟩ (by simp) rfl; have e0 := hH.slot 1 16 d1 l0; have g0 := hH.holds 1 l0; rw [r1] at g0; rw [g0] at e0; have hB9 := early9 hH.glob (RV.not_yet hH A_17_2 hl); have z0 := c_after hB9 md2; exact ⟨.int .i64 (hx), by simp [execOp, go_sem, e0, z0], (r2 _ _).mpr rfl⟩)) ?_
      refine RV.AllDo.cons 3 (RV.does_call (fun γ L a w hH hl hA => by have l0 : L 2 = true := hA ⟨2, .data⟩ (by simp) rfl; have e0 := hH.slot 2 17 d2 l0; have g0 := hH.holds 2 l0; rw [r2] at g0; rw [g0] at e0; have hB9 := early9 hH.glob (RV.not_yet hH A_17_3 hl); exact ⟨59, #[.int .i64 (hx), .int .i64 (65536)], by simp [go_sem, e0], Calls.mono (P3.out w) (by rintro e w2 ⟨rfl, hb⟩; exact ⟨_, rfl, (r3 _ _).mpr rfl, fun j v _ h => K j v _ _ h, Or.inl ⟨by rw [RV.more_ne (L := L) (i := 3) (j := 17) (by decide)]; exact RV.not_yet hH A_17_3 hl, hB9.trans (hb.mono hB9.size)⟩⟩)⟩)) ?_
      refine RV.AllDo.cons 4 (RV.does_pure (fun γ v L w hl h => by rw [RV.more_ne (L := L) (i := 4) (j := 17) (by decide)]; exact h) (fun γ L a w hH hl hA => by have l0 : L 3 = true := hA ⟨3, .data⟩ (by simp) rfl; have e0 := hH.slot 3 18 d3 l0; have g0 := hH.holds 3 l0; rw [r3] at g0; rw [g0] at e0; exact ⟨.int .i64 (1 + px), by simp [execOp, go_sem, e0, n3], (r4 _ _).mpr rfl⟩)) ?_
      refine RV.AllDo.cons 5 (RV.does_pure (fun γ v L w hl h => by rw [RV.more_ne (L := L) (i := 5) (j := 17) (by decide)]; exact h) (fun γ L a w hH hl hA => by have e0 := E1 γ L a w hH; exact ⟨.pointer (some ⟨ba, 2, none⟩), by simp [execOp, go_sem, e0], (r5 _ _).mpr rfl⟩)) ?_
      refine RV.AllDo.cons 6 (RV.does_pure (fun γ v L w hl h => by rw [RV.more_ne (L := L) (i := 6) (j := 17) (by decide)]; exact h) (fun γ L a w hH hl hA => by have l0 : L 5 = true := hA ⟨5, .data⟩ (by simp) rfl; have e0 := hH.slot 5 20 d5 l0; have g0 := hH.holds 5 l0; rw [r5] at g0; rw [g0] at e0; exact ⟨.pointer (some ⟨ba, 3, none⟩), by simp [execOp, go_sem, e0], (r6 _ _).mpr rfl⟩)) ?_
      refine RV.AllDo.cons 7 (RV.does_pure (fun γ v L w hl h => by rw [RV.more_ne (L := L) (i := 7) (j := 17) (by decide)]; exact h) (fun γ L a w hH hl hA => by have l0 : L 6 = true := hA ⟨6, .data⟩ (by simp) rfl; have e0 := hH.slot 6 21 d6 l0; have g0 := hH.holds 6 l0; rw [r6] at g0; rw [g0] at e0; have hB9 := early9 hH.glob (RV.not_yet hH A_17_7 hl); have z0 := c_after hB9 md3; exact ⟨.int .i64 (hy), by simp [execOp, go_sem, e0, z0], (r7 _ _).mpr rfl⟩)) ?_
      refine RV.AllDo.cons 8 (RV.does_call (fun γ L a w hH hl hA => by have l0 : L 7 = true := hA ⟨7, .data⟩ (by simp) rfl; have e0 := hH.slot 7 22 d7 l0; have g0 := hH.holds 7 l0; rw [r7] at g0; rw [g0] at e0; have hB9 := early9 hH.glob (RV.not_yet hH A_17_8 hl); exact ⟨59, #[.int .i64 (hy), .int .i64 (65536)], by simp [go_sem, e0], Calls.mono (P4.out w) (by rintro e w2 ⟨rfl, hb⟩; exact ⟨_, rfl, (r8 _ _).mpr rfl, fun j v _ h => K j v _ _ h, Or.inl ⟨by rw [RV.more_ne (L := L) (i := 8) (j := 17) (by decide)]; exact RV.not_yet hH A_17_8 hl, hB9.trans (hb.mono hB9.size)⟩⟩)⟩)) ?_
      refine RV.AllDo.cons 9 (RV.does_pure (fun γ v L w hl h => by rw [RV.more_ne (L := L) (i := 9) (j := 17) (by decide)]; exact h) (fun γ L a w hH hl hA => by have l0 : L 8 = true := hA ⟨8, .data⟩ (by simp) rfl; have e0 := hH.slot 8 23 d8 l0; have g0 := hH.holds 8 l0; rw [r8] at g0; rw [g0] at e0; exact ⟨.int .i64 (1 + py), by simp [execOp, go_sem, e0, n4], (r9 _ _).mpr rfl⟩)) ?_
      refine RV.AllDo.cons 10 (RV.does_pure (fun γ v L w hl h => by rw [RV.more_ne (L := L) (i := 10) (j := 17) (by decide)]; exact h) (fun γ L a w hH hl hA => by have e0 := E1 γ L a w hH; exact ⟨.pointer (some ⟨ba, 2, none⟩), by simp [execOp, go_sem, e0], (r10 _ _).mpr rfl⟩)) ?_
      refine RV.AllDo.cons 11 (RV.does_pure (fun γ v L w hl h => by rw [RV.more_ne (L := L) (i := 11) (j := 17) (by decide)]; exact h) (fun γ L a w hH hl hA => by have l0 : L 10 = true := hA ⟨10, .data⟩ (by simp) rfl; have e0 := hH.slot 10 25 d10 l0; have g0 := hH.holds 10 l0; rw [r10] at g0; rw [g0] at e0; exact ⟨.pointer (some ⟨ba, 4, none⟩), by simp [execOp, go_sem, e0], (r11 _ _).mpr rfl⟩)) ?_
      refine RV.AllDo.cons 12 (RV.does_pure (fun γ v L w hl h => by rw [RV.more_ne (L := L) (i := 12) (j := 17) (by decide)]; exact h) (fun γ L a w hH hl hA => by have l0 : L 11 = true := hA ⟨11, .data⟩ (by simp) rfl; have e0 := hH.slot 11 26 d11 l0; have g0 := hH.holds 11 l0; rw [r11] at g0; rw [g0] at e0; have hB9 := early9 hH.glob (RV.not_yet hH A_17_12 hl); have z0 := c_after hB9 md4; exact ⟨.int .i64 (hz), by simp [execOp, go_sem, e0, z0], (r12 _ _).mpr rfl⟩)) ?_
      refine RV.AllDo.cons 13 (RV.does_call (fun γ L a w hH hl hA => by have l0 : L 12 = true := hA ⟨12, .data⟩ (by simp) rfl; have e0 := hH.slot 12 27 d12 l0; have g0 := hH.holds 12 l0; rw [r12] at g0; rw [g0] at e0; have hB9 := early9 hH.glob (RV.not_yet hH A_17_13 hl); exact ⟨59, #[.int .i64 (hz), .int .i64 (65536)], by simp [go_sem, e0], Calls.mono (P5.out w) (by rintro e w2 ⟨rfl, hb⟩; exact ⟨_, rfl, (r13 _ _).mpr rfl, fun j v _ h => K j v _ _ h, Or.inl ⟨by rw [RV.more_ne (L := L) (i := 13) (j := 17) (by decide)]; exact RV.not_yet hH A_17_13 hl, hB9.trans (hb.mono hB9.size)⟩⟩)⟩)) ?_
      refine RV.AllDo.cons 14 (RV.does_pure (fun γ v L w hl h => by rw [RV.more_ne (L := L) (i := 14) (j := 17) (by decide)]; exact h) (fun γ L a w hH hl hA => by have l0 : L 13 = true := hA ⟨13, .data⟩ (by simp) rfl; have e0 := hH.slot 13 28 d13 l0; have g0 := hH.holds 13 l0; rw [r13] at g0; rw [g0] at e0; exact ⟨.int .i64 (1 + pz), by simp [execOp, go_sem, e0, n5], (r14 _ _).mpr rfl⟩)) ?_
      refine RV.AllDo.cons 15 (RV.does_pure (fun γ v L w hl h => by rw [RV.more_ne (L := L) (i := 15) (j := 17) (by decide)]; exact h) (fun γ L a w hH hl hA => by have l0 : L 4 = true := hA ⟨4, .data⟩ (by simp) rfl; have e0 := hH.slot 4 19 d4 l0; have g0 := hH.holds 4 l0; rw [r4] at g0; rw [g0] at e0; have l1 : L 9 = true := hA ⟨9, .data⟩ (by simp) rfl; have e1 := hH.slot 9 24 d9 l1; have g1 := hH.holds 9 l1; rw [r9] at g1; rw [g1] at e1; have l2 : L 14 = true := hA ⟨14, .data⟩ (by simp) rfl; have e2 := hH.slot 14 29 d14 l2; have g2 := hH.holds 14 l2; rw [r14] at g2; rw [g2] at e2; exact ⟨.agg #[.int .i64 (1 + px), .int .i64 (1 + py), .int .i64 (1 + pz)], by simp [execOp, go_sem, e0, e1, e2], (r15 _ _).mpr rfl⟩)) ?_
      refine RV.AllDo.cons 16 (RV.does_pure (fun γ v L w hl h => by rw [RV.more_ne (L := L) (i := 16) (j := 17) (by decide)]; exact h) (fun γ L a w hH hl hA => by have e0 := E3 γ L a w hH; exact ⟨.pointer (some ⟨b3, 2, none⟩), by simp [execOp, go_sem, e0], (r16 _ _).mpr rfl⟩)) ?_
      refine RV.AllDo.cons 17 (RV.does_store (fun γ L a w hH hl hA => by have l0 : L 15 = true := hA ⟨15, .data⟩ (by simp) rfl; have e0 := hH.slot 15 30 d15 l0; have g0 := hH.holds 15 l0; rw [r15] at g0; rw [g0] at e0; have l1 : L 16 = true := hA ⟨16, .data⟩ (by simp) rfl; have e1 := hH.slot 16 31 d16 l1; have g1 := hH.holds 16 l1; rw [r16] at g1; rw [g1] at e1; have hB9 := early9 hH.glob hl; have z0 := c_after hB9 s2; have zf0 := f_after hB9 s2 t2; have z1 := c_after hB9 s3; have zf1 := f_after hB9 s3 t3; have z2 := c_after hB9 s4; have zf2 := f_after hB9 s4 t4; exact ⟨(((w.setCell ⟨b3, 2, none⟩ (.int .i64 (1 + px))).setCell ⟨b3, 2 + 1, none⟩ (.int .i64 (1 + py))).setCell ⟨b3, 2 + 2, none⟩ (.int .i64 (1 + pz))), by simp [execOp, go_sem, e0, e1, z0, zf0, z1, zf1, z2, zf2], (r17 _ _).mpr trivial, fun j v _ h => K j v _ _ h, Or.inr ⟨RV.more_self, w, hB9, rfl⟩⟩)) ?_
      exact RV.AllDo.nil
    · intro γ a5 w5 L9 hL hLo hH
      have ha := RV.held_act hH hL (by kernel_rfl) (by kernel_rfl)
      obtain ⟨w8, hb8, rfl⟩ := late9 hH.glob (hL 17 (by decide))
      have y0 : γ 0 = .pointer (some ⟨ba, 2, none⟩) := hH.holds 0 (hL 0 (by decide))
      have y1 : γ 1 = .pointer (some ⟨ba, 2, none⟩) := hH.holds 1 (hL 1 (by decide))
      have y2 : γ 2 = .int .i64 (hx) := hH.holds 2 (hL 2 (by decide))
      have y3 : γ 3 = .int .i64 (px) := hH.holds 3 (hL 3 (by decide))
      have y4 : γ 4 = .int .i64 (1 + px) := hH.holds 4 (hL 4 (by decide))
      have y5 : γ 5 = .pointer (some ⟨ba, 2, none⟩) := hH.holds 5 (hL 5 (by decide))
      have y6 : γ 6 = .pointer (some ⟨ba, 3, none⟩) := hH.holds 6 (hL 6 (by decide))
      have y7 : γ 7 = .int .i64 (hy) := hH.holds 7 (hL 7 (by decide))
      have y8 : γ 8 = .int .i64 (py) := hH.holds 8 (hL 8 (by decide))
      have y9 : γ 9 = .int .i64 (1 + py) := hH.holds 9 (hL 9 (by decide))
      have y10 : γ 10 = .pointer (some ⟨ba, 2, none⟩) := hH.holds 10 (hL 10 (by decide))
      have y11 : γ 11 = .pointer (some ⟨ba, 4, none⟩) := hH.holds 11 (hL 11 (by decide))
      have y12 : γ 12 = .int .i64 (hz) := hH.holds 12 (hL 12 (by decide))
      have y13 : γ 13 = .int .i64 (pz) := hH.holds 13 (hL 13 (by decide))
      have y14 : γ 14 = .int .i64 (1 + pz) := hH.holds 14 (hL 14 (by decide))
      have y15 : γ 15 = .agg #[.int .i64 (1 + px), .int .i64 (1 + py), .int .i64 (1 + pz)] := hH.holds 15 (hL 15 (by decide))
      have y16 : γ 16 = .pointer (some ⟨b3, 2, none⟩) := hH.holds 16 (hL 16 (by decide))
      rw [ha]
      clear ha hH hL hLo
      simp only [RV.putAll, Act.put, List.setIfInBounds_toArray, List.set_cons_zero, List.set_cons_succ, Nat.zero_add, Nat.reduceAdd, y0, y1, y2, y3, y4, y5, y6, y7, y8, y9, y10, y11, y12, y13, y14, y15, y16]
      clear y0 y1 y2 y3 y4 y5 y6 y7 y8 y9 y10 y11 y12 y13 y14 y15 y16
      have D3 := Cells.set (Cells.set (Cells.set (Cells.step C3.out hb8) 2 (.int .i64 (1 + px)) (by simp)) 3 (.int .i64 (1 + py)) (by simp)) 4 (.int .i64 (1 + pz)) (by simp)
      have hne : b3 ≠ bs := by omega
      have D2 : Cells (((w8.setCell ⟨b3, 2, none⟩ (.int .i64 (1 + px))).setCell ⟨b3, 3, none⟩ (.int .i64 (1 + py))).setCell ⟨b3, 4, none⟩ (.int .i64 (1 + pz))) bs [.int .i64 0, .int .i64 0, .int .i64 0, .int .i64 0, .int .i64 0, .slice none 0 0] := fun i v e => by
        obtain ⟨q1, q2⟩ := Cells.step C2'.out hb8 i v e
        exact ⟨by simp [go_sem, q1], by simp [go_sem, q2]⟩
      have hE2 : Below w0.heap.size w0 (((w8.setCell ⟨b3, 2, none⟩ (.int .i64 (1 + px))).setCell ⟨b3, 3, none⟩ (.int .i64 (1 + py))).setCell ⟨b3, 4, none⟩ (.int .i64 (1 + pz))) := (((b_step hE.out hb8).setCell (show w0.heap.size ≤ b3 by omega) _).setCell (show w0.heap.size ≤ b3 by omega) _).setCell (show w0.heap.size ≤ b3 by omega) _
      obtain ⟨X2, hX2⟩ : ∃ X : World, X = ((w8.setCell ⟨b3, 2, none⟩ (.int .i64 (1 + px))).setCell ⟨b3, 3, none⟩ (.int .i64 (1 + py))).setCell ⟨b3, 4, none⟩ (.int .i64 (1 + pz)) := ⟨_, rfl⟩
      rw [← hX2] at D3 D2 hE2 ⊢
      clear hX2 hb8 md2 md3 md4 s2 s3 s4 t2 t3 t4
      have s0 := (D3 0 _ rfl).1
      have s1 := (D3 1 _ rfl).1
      have s2 := (D3 2 _ rfl).1
      have s3 := (D3 3 _ rfl).1
      have s4 := (D3 4 _ rfl).1
      have s5 := (D3 5 _ rfl).1
      have r0 := (D2 0 _ rfl).1
      have r1 := (D2 1 _ rfl).1
      have r2 := (D2 2 _ rfl).1
      have r3 := (D2 3 _ rfl).1
      have r4 := (D2 4 _ rfl).1
      have r5 := (D2 5 _ rfl).1
      have f0 := (D2 0 _ rfl).2
      have f1 := (D2 1 _ rfl).2
      have f2 := (D2 2 _ rfl).2
      have f3 := (D2 3 _ rfl).2
      have f4 := (D2 4 _ rfl).2
      have f5 := (D2 5 _ rfl).2
      have hk4 : ¬ 1 + k = 4 := by omega
      go_wp2_with (fail)
      refine bodyPost_ret (v := .agg #[.int .i64 (1 + k), .int .i64 (1 + pr), .int .i64 (1 + px), .int .i64 (1 + py), .int .i64 (1 + pz), .slice none 0 0]) (by simp [results, Try.results36, go_sem, r0, r1, r2, r3, r4, r5]) rfl ⟨rfl, ?_⟩
      exact (((((hE2.setCell hsl _).setCell hsl _).setCell hsl _).setCell hsl _).setCell hsl _).setCell hsl _
end Go.Proofs.Ytccdgpijjgeedaa
/- The document's own side of a plane; a law's part. -/
namespace Go.Proofs.Ytccdgpijjgeedaa
open Go.RowKit Go.Shelf
set_option linter.unusedVariables false

theorem part_any (n : Int) (w : World) (hn : -9223372036854775808 ≤ n ∧ n ≤ 9223372036854775807) :
    Calls Try.prog 60 #[.int .i64 n, .int .i64 65536] w fun e w' => e = .returned (.int .i64 (pickZ n 131073 - 65536)) ∧ w' = w := by
  have HP : Hid _ := pick_any n 131073 w hn (by decide) (by decide)
  have l := pickZ_lo n (n := 131073) (by decide)
  have u := pickZ_hi n (n := 131073) (by decide)
  generalize pickZ n 131073 = q at *
  have e1 : IntKind.i64.wrap (q - 65536) = q - 65536 := by rw [IntKind.wrap_i64]; omega
  clear hn l u
  go_enter Try.func60, Try.ntmps60
  go_wp2_with (fail)
  refine Calls.mono HP.out ?_
  rintro e w' ⟨rfl, rfl⟩
  go_wp2_with (fail)
  go_ret
  exact ⟨rfl, rfl⟩
def lowD (L : List Pt) (n a : Pt) (k : Nat) : Int := (L.take k).foldl (fun s p => minI s (n.dot (p.sub a))) 0
def highD (L : List Pt) (n a : Pt) (k : Nat) : Int := (L.take k).foldl (fun s p => maxI s (n.dot (p.sub a))) 0
theorem lowD_next (L : List Pt) (n a : Pt) (k : Nat) (hk : k < L.length) : lowD L n a (k + 1) = minI (lowD L n a k) (n.dot ((pt L k).sub a)) := by unfold lowD; rw [take_pt hk, List.foldl_append]; rfl
theorem highD_next (L : List Pt) (n a : Pt) (k : Nat) (hk : k < L.length) : highD L n a (k + 1) = maxI (highD L n a k) (n.dot ((pt L k).sub a)) := by unfold highD; rw [take_pt hk, List.foldl_append]; rfl
/-- 1: all points are behind the plane, -1: all are ahead of it, 0 else. -/
def sideZ (L : List Pt) (n a : Pt) : Int := if highD L n a L.length ≤ 0 then 1 else if 0 ≤ lowD L n a L.length then -1 else 0
set_option maxHeartbeats 2000000 in
set_option maxRecDepth 100000 in
theorem side_any (v : Value) (Ls : List Pt) (n pa : Pt) (w0 : World) (hv : Lies w0 v Ls) (hl : Ls.length ≤ 100) (hin : ∀ p ∈ Ls, p.inB 65536 = true) (hain : pa.inB 65536 = true) (hnin : n.inB 34359738368 = true) :
    Calls Try.prog 84 #[v, n.v, pa.v] w0 fun e W => e = .returned (.int .i64 (sideZ Ls n pa)) ∧ Below w0.heap.size w0 W := by
  obtain ⟨o, c, rfl, hlc, hcm, hcell⟩ := hv.form
  have HC : Hid _ := hcell
  have HIN : Hid _ := hin
  clear hcell hv hin
  have HS : Hid (sideZ Ls n pa = if highD Ls n pa Ls.length ≤ 0 then 1 else if 0 ≤ lowD Ls n pa Ls.length then -1 else 0) := rfl
  generalize sideZ Ls n pa = R at *
  have B1 : Hid (Box3 ((w0.alloc (.cells #[.int .i64 n.x, .int .i64 n.y, .int .i64 n.z] 26)).alloc (.cells #[.int .i64 pa.x, .int .i64 pa.y, .int .i64 pa.z] 26)) w0.heap.size n) := (Box3.new w0 n.x n.y n.z _).step (n_after _ _)
  have B2 : Hid (Box3 ((w0.alloc (.cells #[.int .i64 n.x, .int .i64 n.y, .int .i64 n.z] 26)).alloc (.cells #[.int .i64 pa.x, .int .i64 pa.y, .int .i64 pa.z] 26)) (w0.heap.size + 1) pa) := by have := Box3.new (w0.alloc (.cells #[.int .i64 n.x, .int .i64 n.y, .int .i64 n.z] 26)) pa.x pa.y pa.z 26; rwa [World.size_alloc] at this
  have hB : Hid (Below w0.heap.size w0 ((w0.alloc (.cells #[.int .i64 n.x, .int .i64 n.y, .int .i64 n.z] 26)).alloc (.cells #[.int .i64 pa.x, .int .i64 pa.y, .int .i64 pa.z] 26))) := b_step (n_after w0 _) (n_after _ _)
  unfold Pt.v
  go_enter Try.func84, Try.ntmps84
  go_wp2_with (fail)
  obtain ⟨V, hV⟩ : ∃ V : World, V = (w0.alloc (.cells #[.int .i64 n.x, .int .i64 n.y, .int .i64 n.z] 26)).alloc (.cells #[.int .i64 pa.x, .int .i64 pa.y, .int .i64 pa.z] 26) := ⟨_, rfl⟩
  obtain ⟨ba, hba⟩ : ∃ ba, ba = w0.heap.size + 1 := ⟨_, rfl⟩
  obtain ⟨bn, hbn⟩ : ∃ bn, bn = w0.heap.size := ⟨_, rfl⟩
  rw [← hV] at B1 B2 hB ⊢
  rw [← hba] at B2 ⊢
  rw [← hbn] at B1 ⊢
  clear hV hba hbn
  go_loopg [7, 8, 9] Ls.length (fun gm s7 s8 s9 wr => ∃ k : Nat, s7 = .int .i64 (lowD Ls n pa k) ∧ s8 = .int .i64 (highD Ls n pa k) ∧ s9 = .int .i64 (k : Int) ∧ k ≤ Ls.length ∧ gm = Ls.length - k ∧ Hid (Below V.heap.size V wr))
  case atStart => exact ⟨0, rfl, rfl, rfl, Nat.zero_le _, rfl, Below.refl _ _⟩
  case round =>
    obtain ⟨k, rfl, rfl, rfl, hk, hgm, HB⟩ := hrel
    have HG : Hid _ := hgm
    clear hgm
    by_cases hkt : k < Ls.length
    · obtain ⟨g, off, rfl, x0, x1, x2⟩ := HC.out k hkt
      have x0 := c_after HB.out (c_after hB.out x0)
      have x1 := c_after HB.out (c_after hB.out x1)
      have x2 := c_after HB.out (c_after hB.out x2)
      have hmin := HIN.out _ (pt_mem hkt)
      have HN1 : Hid _ := lowD_next Ls n pa k hkt
      have HN2 : Hid _ := highD_next Ls n pa k hkt
      generalize pt Ls k = mo at *
      generalize lowD Ls n pa k = lo at *
      generalize highD Ls n pa k = hi at *
      have L1 : Hid _ := fun w' => minus_any mo pa w' (inB_mono hmin (by decide)) (inB_mono hain (by decide))
      have L2 : Hid _ := fun w' => rdot_any n (mo.sub pa) w' hnin (sub_in hmin hain)
      unfold Pt.v at L1 L2
      obtain ⟨q0, q1, q2, _, _, _⟩ := B1.out.step HB.out
      obtain ⟨p0, p1, p2, _, _, _⟩ := B2.out.step HB.out
      have hkz : (k : Int) < (Ls.length : Int) := by omega
      unfold minI at HN1
      unfold maxI at HN2
      obtain ⟨nl, e1⟩ : ∃ v, (if n.dot (mo.sub pa) < lo then n.dot (mo.sub pa) else lo) = v := ⟨_, rfl⟩
      obtain ⟨nh, e2⟩ : ∃ v, (if n.dot (mo.sub pa) > hi then n.dot (mo.sub pa) else hi) = v := ⟨_, rfl⟩
      rw [e1] at HN1
      rw [e2] at HN2
      go_upto_region 6 with fail
      refine RV.region_by (fun j v w => match j with | 0 => v = .agg #[.int .i64 (n.x), .int .i64 (n.y), .int .i64 (n.z)] | 1 => v = .slice (some ⟨g, off, none⟩) Ls.length c | 2 => v = .int .i64 ((k : Int)) | 3 => v = .pointer (some ⟨g, off + k * 3, none⟩) | 4 => v = .agg #[.int .i64 (mo.x), .int .i64 (mo.y), .int .i64 (mo.z)] | 5 => v = .agg #[.int .i64 (pa.x), .int .i64 (pa.y), .int .i64 (pa.z)] | 6 => v = .agg #[.int .i64 ((mo.sub pa).x), .int .i64 ((mo.sub pa).y), .int .i64 ((mo.sub pa).z)] | 7 => v = .int .i64 (n.dot (mo.sub pa)) | 8 => v = .int .i64 (n.dot (mo.sub pa)) | _ => True) (fun γ L w9 => Below wr.heap.size wr w9) (by kernel_rfl) (by kernel_rfl) (by kernel_rfl) (by kernel_rfl) ?_ ?_ ?_
      · exact (Below.refl _ wr).drew
      · generalize hD : dstOf _ = D
        generalize hWA : waitsFor _ = WA
        generalize hZ : Act.mk _ _ = Z
        obtain ⟨R, hR⟩ : ∃ R : Nat → Value → World → Prop, R = (fun j v w => match j with | 0 => v = .agg #[.int .i64 (n.x), .int .i64 (n.y), .int .i64 (n.z)] | 1 => v = .slice (some ⟨g, off, none⟩) Ls.length c | 2 => v = .int .i64 ((k : Int)) | 3 => v = .pointer (some ⟨g, off + k * 3, none⟩) | 4 => v = .agg #[.int .i64 (mo.x), .int .i64 (mo.y), .int .i64 (mo.z)] | 5 => v = .agg #[.int .i64 (pa.x), .int .i64 (pa.y), .int .i64 (pa.z)] | 6 => v = .agg #[.int .i64 ((mo.sub pa).x), .int .i64 ((mo.sub pa).y), .int .i64 ((mo.sub pa).z)] | 7 => v = .int .i64 (n.dot (mo.sub pa)) | 8 => v = .int .i64 (n.dot (mo.sub pa)) | _ => True) := ⟨_, rfl⟩
        rw [← hR]
        have d0 : D 0 = some 17 := by rw [← hD]; rfl
        have d1 : D 1 = some 18 := by rw [← hD]; rfl
        have d2 : D 2 = some 19 := by rw [← hD]; rfl
        have d3 : D 3 = some 20 := by rw [← hD]; rfl
        have d4 : D 4 = some 21 := by rw [← hD]; rfl
        have d5 : D 5 = some 22 := by rw [← hD]; rfl
        have d6 : D 6 = some 23 := by rw [← hD]; rfl
        have d7 : D 7 = some 24 := by rw [← hD]; rfl
        have d8 : D 8 = some 10 := by rw [← hD]; rfl
        have r0 : ∀ v w, R 0 v w = (v = .agg #[.int .i64 (n.x), .int .i64 (n.y), .int .i64 (n.z)]) := fun v w => by rw [hR]; rfl
        have r1 : ∀ v w, R 1 v w = (v = .slice (some ⟨g, off, none⟩) Ls.length c) := fun v w => by rw [hR]; rfl
        have r2 : ∀ v w, R 2 v w = (v = .int .i64 ((k : Int))) := fun v w => by rw [hR]; rfl
        have r3 : ∀ v w, R 3 v w = (v = .pointer (some ⟨g, off + k * 3, none⟩)) := fun v w => by rw [hR]; rfl
        have r4 : ∀ v w, R 4 v w = (v = .agg #[.int .i64 (mo.x), .int .i64 (mo.y), .int .i64 (mo.z)]) := fun v w => by rw [hR]; rfl
        have r5 : ∀ v w, R 5 v w = (v = .agg #[.int .i64 (pa.x), .int .i64 (pa.y), .int .i64 (pa.z)]) := fun v w => by rw [hR]; rfl
        have r6 : ∀ v w, R 6 v w = (v = .agg #[.int .i64 ((mo.sub pa).x), .int .i64 ((mo.sub pa).y), .int .i64 ((mo.sub pa).z)]) := fun v w => by rw [hR]; rfl
        have r7 : ∀ v w, R 7 v w = (v = .int .i64 (n.dot (mo.sub pa))) := fun v w => by rw [hR]; rfl
        have r8 : ∀ v w, R 8 v w = (v = .int .i64 (n.dot (mo.sub pa))) := fun v w => by rw [hR]; rfl
        have E0 : ∀ (γ : Nat → Value) (L : Nat → Bool) (a : Act) (w : World), RV.Held D WA R (fun γ L w9 => Below wr.heap.size wr w9) Z γ L a w → a.tmps[0]? = some (.slice (some ⟨g, off, none⟩) Ls.length c) := fun γ L a w hH => (hH.rest 0 (by rw [← hD]; exact RV.dst_free (by kernel_rfl))).trans (by rw [← hZ]; rfl)
        have E4 : ∀ (γ : Nat → Value) (L : Nat → Bool) (a : Act) (w : World), RV.Held D WA R (fun γ L w9 => Below wr.heap.size wr w9) Z γ L a w → a.tmps[4]? = some (.pointer (some ⟨bn, 0, none⟩)) := fun γ L a w hH => (hH.rest 4 (by rw [← hD]; exact RV.dst_free (by kernel_rfl))).trans (by rw [← hZ]; rfl)
        have E5 : ∀ (γ : Nat → Value) (L : Nat → Bool) (a : Act) (w : World), RV.Held D WA R (fun γ L w9 => Below wr.heap.size wr w9) Z γ L a w → a.tmps[5]? = some (.pointer (some ⟨ba, 0, none⟩)) := fun γ L a w hH => (hH.rest 5 (by rw [← hD]; exact RV.dst_free (by kernel_rfl))).trans (by rw [← hZ]; rfl)
        have E9 : ∀ (γ : Nat → Value) (L : Nat → Bool) (a : Act) (w : World), RV.Held D WA R (fun γ L w9 => Below wr.heap.size wr w9) Z γ L a w → a.tmps[9]? = some (.int .i64 ((k : Int))) := fun γ L a w hH => (hH.rest 9 (by rw [← hD]; exact RV.dst_free (by kernel_rfl))).trans (by rw [← hZ]; rfl)
        have K : ∀ j v w w', R j v w → R j v w' := by rw [hR]; intro j v w w' h; exact h
        clear hD hWA hZ hR
        refine RV.AllDo.cons 0 (RV.does_pure (fun γ v L w hl h => h) (fun γ L a w hH hl hA => by have e0 := E4 γ L a w hH; have hB9 := hH.glob; have z0 := c_after hB9 q0; have z1 := c_after hB9 q1; have z2 := c_after hB9 q2; exact ⟨.agg #[.int .i64 (n.x), .int .i64 (n.y), .int .i64 (n.z)], by simp [execOp, go_sem, e0, z0, z1, z2], (r0 _ _).mpr rfl⟩)) ?_
        refine RV.AllDo.cons 1 (RV.does_pure (fun γ v L w hl h => h) (fun γ L a w hH hl hA => by have e0 := E0 γ L a w hH; exact ⟨.slice (some ⟨g, off, none⟩) Ls.length c, by simp [execOp, go_sem, e0], (r1 _ _).mpr rfl⟩)) ?_
        refine RV.AllDo.cons 2 (RV.does_pure (fun γ v L w hl h => h) (fun γ L a w hH hl hA => by have e0 := E9 γ L a w hH; exact ⟨.int .i64 ((k : Int)), by simp [execOp, go_sem, e0], (r2 _ _).mpr rfl⟩)) ?_
        refine RV.AllDo.cons 3 (RV.does_pure (fun γ v L w hl h => h) (fun γ L a w hH hl hA => by have l0 : L 1 = true := hA ⟨1, .data⟩ (by simp) rfl; have e0 := hH.slot 1 18 d1 l0; have g0 := hH.holds 1 l0; rw [r1] at g0; rw [g0] at e0; have l1 : L 2 = true := hA ⟨2, .data⟩ (by simp) rfl; have e1 := hH.slot 2 19 d2 l1; have g1 := hH.holds 2 l1; rw [r2] at g1; rw [g1] at e1; exact ⟨.pointer (some ⟨g, off + k * 3, none⟩), by simp [execOp, go_sem, e0, e1, hkz], (r3 _ _).mpr rfl⟩)) ?_
        refine RV.AllDo.cons 4 (RV.does_pure (fun γ v L w hl h => h) (fun γ L a w hH hl hA => by have l0 : L 3 = true := hA ⟨3, .data⟩ (by simp) rfl; have e0 := hH.slot 3 20 d3 l0; have g0 := hH.holds 3 l0; rw [r3] at g0; rw [g0] at e0; have hB9 := hH.glob; have v0 := c_after hB9 x0; have v1 := c_after hB9 x1; have v2 := c_after hB9 x2; exact ⟨.agg #[.int .i64 (mo.x), .int .i64 (mo.y), .int .i64 (mo.z)], by simp [execOp, go_sem, e0, v0, v1, v2], (r4 _ _).mpr rfl⟩)) ?_
        refine RV.AllDo.cons 5 (RV.does_pure (fun γ v L w hl h => h) (fun γ L a w hH hl hA => by have e0 := E5 γ L a w hH; have hB9 := hH.glob; have z0 := c_after hB9 p0; have z1 := c_after hB9 p1; have z2 := c_after hB9 p2; exact ⟨.agg #[.int .i64 (pa.x), .int .i64 (pa.y), .int .i64 (pa.z)], by simp [execOp, go_sem, e0, z0, z1, z2], (r5 _ _).mpr rfl⟩)) ?_
        refine RV.AllDo.cons 6 (RV.does_call (fun γ L a w hH hl hA => by have l0 : L 4 = true := hA ⟨4, .data⟩ (by simp) rfl; have e0 := hH.slot 4 21 d4 l0; have g0 := hH.holds 4 l0; rw [r4] at g0; rw [g0] at e0; have l1 : L 5 = true := hA ⟨5, .data⟩ (by simp) rfl; have e1 := hH.slot 5 22 d5 l1; have g1 := hH.holds 5 l1; rw [r5] at g1; rw [g1] at e1; have hB9 := hH.glob; exact ⟨39, #[.agg #[.int .i64 (mo.x), .int .i64 (mo.y), .int .i64 (mo.z)], .agg #[.int .i64 (pa.x), .int .i64 (pa.y), .int .i64 (pa.z)]], by simp [go_sem, e0, e1], Calls.mono (L1.out w) (by rintro e w2 ⟨rfl, hb⟩; exact ⟨_, rfl, (r6 _ _).mpr rfl, fun j v _ h => K j v _ _ h, hB9.trans (hb.mono hB9.size)⟩)⟩)) ?_
        refine RV.AllDo.cons 7 (RV.does_call (fun γ L a w hH hl hA => by have l0 : L 0 = true := hA ⟨0, .data⟩ (by simp) rfl; have e0 := hH.slot 0 17 d0 l0; have g0 := hH.holds 0 l0; rw [r0] at g0; rw [g0] at e0; have l1 : L 6 = true := hA ⟨6, .data⟩ (by simp) rfl; have e1 := hH.slot 6 23 d6 l1; have g1 := hH.holds 6 l1; rw [r6] at g1; rw [g1] at e1; have hB9 := hH.glob; exact ⟨30, #[.agg #[.int .i64 (n.x), .int .i64 (n.y), .int .i64 (n.z)], .agg #[.int .i64 ((mo.sub pa).x), .int .i64 ((mo.sub pa).y), .int .i64 ((mo.sub pa).z)]], by simp [go_sem, e0, e1], Calls.mono (L2.out w) (by rintro e w2 ⟨rfl, hb⟩; exact ⟨_, rfl, (r7 _ _).mpr rfl, fun j v _ h => K j v _ _ h, hB9.trans (hb.mono hB9.size)⟩)⟩)) ?_
        refine RV.AllDo.cons 8 (RV.does_pure (fun γ v L w hl h => h) (fun γ L a w hH hl hA => by have l0 : L 7 = true := hA ⟨7, .data⟩ (by simp) rfl; have e0 := hH.slot 7 24 d7 l0; have g0 := hH.holds 7 l0; rw [r7] at g0; rw [g0] at e0; exact ⟨.int .i64 (n.dot (mo.sub pa)), by simp [execOp, go_sem, e0], (r8 _ _).mpr rfl⟩)) ?_
        exact RV.AllDo.nil
      · intro γ a5 w5 L9 hL hLo hH
        have ha := RV.held_act hH hL (by kernel_rfl) (by kernel_rfl)
        have hb8 := hH.glob
        have y0 : γ 0 = .agg #[.int .i64 (n.x), .int .i64 (n.y), .int .i64 (n.z)] := hH.holds 0 (hL 0 (by decide))
        have y1 : γ 1 = .slice (some ⟨g, off, none⟩) Ls.length c := hH.holds 1 (hL 1 (by decide))
        have y2 : γ 2 = .int .i64 ((k : Int)) := hH.holds 2 (hL 2 (by decide))
        have y3 : γ 3 = .pointer (some ⟨g, off + k * 3, none⟩) := hH.holds 3 (hL 3 (by decide))
        have y4 : γ 4 = .agg #[.int .i64 (mo.x), .int .i64 (mo.y), .int .i64 (mo.z)] := hH.holds 4 (hL 4 (by decide))
        have y5 : γ 5 = .agg #[.int .i64 (pa.x), .int .i64 (pa.y), .int .i64 (pa.z)] := hH.holds 5 (hL 5 (by decide))
        have y6 : γ 6 = .agg #[.int .i64 ((mo.sub pa).x), .int .i64 ((mo.sub pa).y), .int .i64 ((mo.sub pa).z)] := hH.holds 6 (hL 6 (by decide))
        have y7 : γ 7 = .int .i64 (n.dot (mo.sub pa)) := hH.holds 7 (hL 7 (by decide))
        have y8 : γ 8 = .int .i64 (n.dot (mo.sub pa)) := hH.holds 8 (hL 8 (by decide))
        rw [ha]
        clear ha hH hL hLo
        simp only [RV.putAll, Act.put, List.setIfInBounds_toArray, List.set_cons_zero, List.set_cons_succ, Nat.zero_add, Nat.reduceAdd, y0, y1, y2, y3, y4, y5, y6, y7, y8]
        clear y0 y1 y2 y3 y4 y5 y6 y7 y8
        have HB7 : Hid _ := b_step HB.out hb8
        clear hb8 L1 L2 q0 q1 q2 p0 p1 p2 x0 x1 x2
        go_wp2_with (fail)
        go_roundg (Ls.length - (k + 1))
        case measure => have := HG.out; omega
        case rel => exact ⟨k + 1, by rw [HN1.out], by rw [HN2.out], by go_num, by omega, rfl, HB7⟩
    · have e : k = Ls.length := by omega
      subst e
      generalize lowD Ls n pa Ls.length = lo at *
      generalize highD Ls n pa Ls.length = hi at *
      by_cases h1 : hi ≤ 0
      · have e : R = 1 := by rw [HS.out, if_pos h1]
        subst e
        clear HS
        go_wp2_with (fail)
        go_ret
        exact ⟨rfl, b_step hB.out HB.out⟩
      · by_cases h2 : 0 ≤ lo
        · have e : R = -1 := by rw [HS.out, if_neg h1, if_pos h2]
          subst e
          clear HS
          go_wp2_with (fail)
          go_ret
          exact ⟨rfl, b_step hB.out HB.out⟩
        · have e : R = 0 := by rw [HS.out, if_neg h1, if_neg h2]
          subst e
          clear HS
          go_wp2_with (fail)
          go_ret
          exact ⟨rfl, b_step hB.out HB.out⟩
end Go.Proofs.Ytccdgpijjgeedaa
