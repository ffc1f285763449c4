/- The quotient of a number of 128 bits by one of 62, down (package fx, wide.by). -/
import Derived.Test.YtiicpdlaaklahaaWide
namespace Go.Proofs.Ytiicpdlaaklahaa
open Go.RowKit Fx

theorem below0_neg (X : Int) (w : World) (h0 : -170141183460469231731687303715884105728 ≤ X) (g : X < 0) :
    Calls Try.prog 85 #[.agg #[.int .u64 (X / 18446744073709551616 % 18446744073709551616), .int .u64 (X % 18446744073709551616)]] w fun e w' =>
      e = .returned (.bool true) ∧ Below w.heap.size w w' := by
  simpa [g] using below0_any X w h0 (by omega)

theorem below0_pos (X : Int) (w : World) (h1 : X < 170141183460469231731687303715884105728) (g : 0 ≤ X) :
    Calls Try.prog 85 #[.agg #[.int .u64 (X / 18446744073709551616 % 18446744073709551616), .int .u64 (X % 18446744073709551616)]] w fun e w' =>
      e = .returned (.bool false) ∧ Below w.heap.size w w' := by
  simpa [show ¬ X < 0 by omega] using below0_any X w (by omega) h1

theorem boxed {W w1 : World} {u v : Value} {t : TypeId} (hb : Below (W.alloc (.cells #[u, v] t)).heap.size (W.alloc (.cells #[u, v] t)) w1) :
    w1.cell? ⟨W.heap.size, 0, none⟩ = some u ∧ w1.cell? ⟨W.heap.size, 1, none⟩ = some v ∧ W.heap.size < w1.heap.size := by
  refine ⟨?_, ?_, ?_⟩
  · rw [hb.cell (by simp)]; simp
  · rw [hb.cell (by simp)]; simp
  · have := hb.size; simp at this; omega

theorem by_world {w w1 w3 : World} {o o' : Obj} {n : Nat} (hb : Below (w.alloc o).heap.size (w.alloc o) w1) (hb3 : Below ((w1.alloc o').drewN n).heap.size ((w1.alloc o').drewN n) w3) : Below w.heap.size w w3 := by
  have a : Below w.heap.size w (w.alloc o) := (Below.refl _ _).alloc (Nat.le_refl _) _
  have s1 := hb.size
  have b : Below w.heap.size w w1 := a.trans (hb.mono (by simp))
  have c : Below w.heap.size w ((w1.alloc o').drewN n) := below_drewN (b.alloc (by simp at s1; omega) _) n
  exact c.trans (hb3.mono (by simp; simp at s1; omega))

set_option maxHeartbeats 2000000 in
theorem by_any (X c Z d : Int) (w : World) (h0 : -170141183460469231731687303715884105728 < X) (h1 : X < 170141183460469231731687303715884105728)
    (hZ : (0 ≤ X ∧ Z = X) ∨ (X < 0 ∧ Z = -X)) (hd : (0 < c ∧ d = c) ∨ (c < 0 ∧ d = -c)) (hc : d ≤ 4611686018427387903) (hn : Z / d ≤ 4611686018427387903) :
    Calls Try.prog 80 #[.agg #[.int .u64 (X / 18446744073709551616 % 18446744073709551616), .int .u64 (X % 18446744073709551616)], .int .i64 c] w fun e w' =>
      e = .returned (.tuple #[.int .i64 (fl X c), .bool true]) ∧ Below w.heap.size w w' := by
  obtain ⟨xh, hxh⟩ : ∃ u, u = X / 18446744073709551616 % 18446744073709551616 := ⟨_, rfl⟩
  obtain ⟨xl, hxl⟩ : ∃ u, u = X % 18446744073709551616 := ⟨_, rfl⟩
  obtain ⟨zh, hzh⟩ : ∃ u, u = Z / 18446744073709551616 % 18446744073709551616 := ⟨_, rfl⟩
  obtain ⟨zl, hzl⟩ : ∃ u, u = Z % 18446744073709551616 := ⟨_, rfl⟩
  have hd0 : 0 < d := by omega
  have hZ0 : 0 ≤ Z := by omega
  have hZe : zh * 18446744073709551616 + zl = Z := by omega
  obtain ⟨n, hne⟩ : ∃ n, Z / d = n := ⟨_, rfl⟩
  obtain ⟨r, hre⟩ : ∃ r, Z % d = r := ⟨_, rfl⟩
  have hn0 : 0 ≤ n := by rw [← hne]; exact Int.ediv_nonneg hZ0 (by omega)
  rw [hne] at hn
  have hzd : zh < d := by
    have h := (div_is Z d hd0).2
    rw [hne] at h
    have g : (n + 1) * d ≤ 4611686018427387904 * d := Int.mul_le_mul_of_nonneg_right (by omega) (by omega)
    omega
  have hz0 : 0 ≤ zh := by omega
  have hl0 : 0 ≤ zl := by omega
  have hl1 : zl < 18446744073709551616 := by omega
  have hr0 : 0 ≤ r := by rw [← hre]; exact Int.emod_nonneg _ (by omega)
  have CS : Hid _ := fun w => size_any X Z w h0 h1 hZ
  have CD : Hid _ := fun w => div64_any zh zl d w hz0 hzd hl0 hl1 (by omega)
  have NEG : Hid ((-Z) / d = if r = 0 then -n else -(n + 1)) := by rw [← hne, ← hre]; exact neg_div hd0
  have hdr : Hid (r < d) := by rw [← hre]; exact Int.emod_lt_of_pos _ hd0
  simp only [Hid] at CS CD
  rw [hZe, hne, hre] at CD
  rcases hZ with ⟨gX, eZ⟩ | ⟨gX, eZ⟩
  · have CB := fun w => below0_pos X w h1 gX
    rw [← hxh, ← hxl] at *
    rw [← hzh, ← hzl] at CS
    have CS : Hid _ := CS
    have CD : Hid _ := CD
    have CB : Hid _ := CB
    rcases hd with ⟨gc, ed⟩ | ⟨gc, ed⟩
    · have hfl : fl X c = n := by unfold fl; rw [if_neg (by omega), ← hne, eZ, ed]
      rw [hfl]
      have hdec : decide (c < 0) = false := by simp; omega
      subst ed
      clear hxh hxl hzh hzl hZe hne hre eZ hfl h0 h1 NEG
      go_enter Try.func80, Try.ntmps80
      go_wp2_with (first | (go_at_call 83; refine (CS.out _).mono ?_; rintro e w1 ⟨rfl, hb⟩; obtain ⟨c1, c2, hsz⟩ := boxed hb) | (go_at_call 84; refine (CD.out _).mono ?_; rintro e w2 ⟨rfl, nn, rfl⟩) | (go_at_call 85; refine (CB.out _).mono ?_; rintro e w3 ⟨rfl, hb3⟩))
      go_returns
      exact ⟨rfl, by_world hb hb3⟩
    · have hfl : fl X c = if r = 0 then -n else -(n + 1) := by unfold fl; rw [if_pos (by omega), ← eZ, ← ed]; exact NEG.out
      rw [hfl]
      subst ed
      clear hxh hxl hzh hzl hZe hne hre eZ hfl h0 h1 NEG
      by_cases gr : r = 0
      · rw [if_pos gr]
        have gr' : (r != 0) = false := by simp [gr]
        clear gr
        go_enter Try.func80, Try.ntmps80
        go_wp2_with (first | (go_at_call 83; refine (CS.out _).mono ?_; rintro e w1 ⟨rfl, hb⟩; obtain ⟨c1, c2, hsz⟩ := boxed hb) | (go_at_call 84; refine (CD.out _).mono ?_; rintro e w2 ⟨rfl, nn, rfl⟩) | (go_at_call 85; refine (CB.out _).mono ?_; rintro e w3 ⟨rfl, hb3⟩))
        go_returns
        exact ⟨rfl, by_world hb hb3⟩
      · rw [if_neg gr]
        have gr' : (r != 0) = true := by simp [gr]
        clear gr
        go_enter Try.func80, Try.ntmps80
        go_wp2_with (first | (go_at_call 83; refine (CS.out _).mono ?_; rintro e w1 ⟨rfl, hb⟩; obtain ⟨c1, c2, hsz⟩ := boxed hb) | (go_at_call 84; refine (CD.out _).mono ?_; rintro e w2 ⟨rfl, nn, rfl⟩) | (go_at_call 85; refine (CB.out _).mono ?_; rintro e w3 ⟨rfl, hb3⟩))
        go_returns
        exact ⟨rfl, by_world hb hb3⟩
  · have CB := fun w => below0_neg X w (by omega) gX
    rw [← hxh, ← hxl] at *
    rw [← hzh, ← hzl] at CS
    have CS : Hid _ := CS
    have CD : Hid _ := CD
    have CB : Hid _ := CB
    rcases hd with ⟨gc, ed⟩ | ⟨gc, ed⟩
    · have hfl : fl X c = if r = 0 then -n else -(n + 1) := by unfold fl; rw [if_neg (by omega), show X = -Z by omega, ← ed]; exact NEG.out
      rw [hfl]
      subst ed
      clear hxh hxl hzh hzl hZe hne hre eZ hfl h0 h1 NEG
      by_cases gr : r = 0
      · rw [if_pos gr]
        have gr' : (r != 0) = false := by simp [gr]
        clear gr
        go_enter Try.func80, Try.ntmps80
        go_wp2_with (first | (go_at_call 83; refine (CS.out _).mono ?_; rintro e w1 ⟨rfl, hb⟩; obtain ⟨c1, c2, hsz⟩ := boxed hb) | (go_at_call 84; refine (CD.out _).mono ?_; rintro e w2 ⟨rfl, nn, rfl⟩) | (go_at_call 85; refine (CB.out _).mono ?_; rintro e w3 ⟨rfl, hb3⟩))
        go_returns
        exact ⟨rfl, by_world hb hb3⟩
      · rw [if_neg gr]
        have gr' : (r != 0) = true := by simp [gr]
        clear gr
        go_enter Try.func80, Try.ntmps80
        go_wp2_with (first | (go_at_call 83; refine (CS.out _).mono ?_; rintro e w1 ⟨rfl, hb⟩; obtain ⟨c1, c2, hsz⟩ := boxed hb) | (go_at_call 84; refine (CD.out _).mono ?_; rintro e w2 ⟨rfl, nn, rfl⟩) | (go_at_call 85; refine (CB.out _).mono ?_; rintro e w3 ⟨rfl, hb3⟩))
        go_returns
        exact ⟨rfl, by_world hb hb3⟩
    · have hfl : fl X c = n := by unfold fl; rw [if_pos (by omega), ← hne, eZ, ed]
      rw [hfl]
      subst ed
      clear hxh hxl hzh hzl hZe hne hre eZ hfl h0 h1 NEG
      go_enter Try.func80, Try.ntmps80
      go_wp2_with (first | (go_at_call 83; refine (CS.out _).mono ?_; rintro e w1 ⟨rfl, hb⟩; obtain ⟨c1, c2, hsz⟩ := boxed hb) | (go_at_call 84; refine (CD.out _).mono ?_; rintro e w2 ⟨rfl, nn, rfl⟩) | (go_at_call 85; refine (CB.out _).mono ?_; rintro e w3 ⟨rfl, hb3⟩))
      go_returns
      exact ⟨rfl, by_world hb hb3⟩

set_option maxHeartbeats 2000000 in
theorem by_none (X c Z d : Int) (w : World) (h0 : -170141183460469231731687303715884105728 < X) (h1 : X < 170141183460469231731687303715884105728)
    (hZ : (0 ≤ X ∧ Z = X) ∨ (X < 0 ∧ Z = -X)) (hd : (0 < c ∧ d = c) ∨ (c < 0 ∧ d = -c)) (hc : d ≤ 4611686018427387903) (hn : 4611686018427387903 < Z / d) :
    Calls Try.prog 80 #[.agg #[.int .u64 (X / 18446744073709551616 % 18446744073709551616), .int .u64 (X % 18446744073709551616)], .int .i64 c] w fun e w' =>
      e = .returned (.tuple #[.int .i64 0, .bool false]) ∧ Below w.heap.size w w' := by
  obtain ⟨xh, hxh⟩ : ∃ u, u = X / 18446744073709551616 % 18446744073709551616 := ⟨_, rfl⟩
  obtain ⟨xl, hxl⟩ : ∃ u, u = X % 18446744073709551616 := ⟨_, rfl⟩
  obtain ⟨zh, hzh⟩ : ∃ u, u = Z / 18446744073709551616 % 18446744073709551616 := ⟨_, rfl⟩
  obtain ⟨zl, hzl⟩ : ∃ u, u = Z % 18446744073709551616 := ⟨_, rfl⟩
  have hd0 : 0 < d := by omega
  have hZ0 : 0 ≤ Z := by omega
  have hZe : zh * 18446744073709551616 + zl = Z := by omega
  obtain ⟨n, hne⟩ : ∃ n, Z / d = n := ⟨_, rfl⟩
  obtain ⟨r, hre⟩ : ∃ r, Z % d = r := ⟨_, rfl⟩
  rw [hne] at hn
  have hz0 : 0 ≤ zh := by omega
  have hl0 : 0 ≤ zl := by omega
  have hl1 : zl < 18446744073709551616 := by omega
  have hr0 : 0 ≤ r := by rw [← hre]; exact Int.emod_nonneg _ (by omega)
  have CS := fun w => size_any X Z w h0 h1 hZ
  rw [← hxh, ← hxl] at *
  rw [← hzh, ← hzl] at CS
  by_cases hzd : zh < d
  · have CD := fun w => div64_any zh zl d w hz0 hzd hl0 hl1 (by omega)
    rw [hZe, hne, hre] at CD
    have CS : Hid _ := CS
    have CD : Hid _ := CD
    clear hxh hxl hzh hzl hZe hne hre h0 h1 hZ
    rcases hd with ⟨gc, ed⟩ | ⟨gc, ed⟩ <;> subst ed
    all_goals
      go_enter Try.func80, Try.ntmps80
      go_wp2_with (first | (go_at_call 83; refine (CS.out _).mono ?_; rintro e w1 ⟨rfl, hb⟩; obtain ⟨c1, c2, hsz⟩ := boxed hb) | (go_at_call 84; refine (CD.out _).mono ?_; rintro e w2 ⟨rfl, nn, rfl⟩))
      go_returns
      exact ⟨rfl, by_world hb (Below.refl _ _)⟩
  · have CS : Hid _ := CS
    clear hxh hxl hzh hzl hZe hne hre h0 h1 hZ
    rcases hd with ⟨gc, ed⟩ | ⟨gc, ed⟩ <;> subst ed
    all_goals
      go_enter Try.func80, Try.ntmps80
      go_wp2_with (first | (go_at_call 83; refine (CS.out _).mono ?_; rintro e w1 ⟨rfl, hb⟩; obtain ⟨c1, c2, hsz⟩ := boxed hb))
      go_returns
      exact ⟨rfl, by_world (n := 0) hb (Below.refl _ _)⟩
end Go.Proofs.Ytiicpdlaaklahaa
