/- Package fx's calls Mul, Ratio, Div, Root: what each returns, and that but for the flag it leaves all memory as it was. -/
import Derived.Test.YtiicpdlaaklahaaWork
namespace Go.Proofs.Ytiicpdlaaklahaa
open Go.RowKit Fx

theorem below_step {w w1 w2 : World} (h1 : Below w.heap.size w w1) (h2 : Below w1.heap.size w1 w2) : Below w.heap.size w w2 := h1.trans (h2.mono h1.size)

theorem small_prod {x y : Int} (hx : -4611686018427387903 ≤ x ∧ x ≤ 4611686018427387903) (hy : -4611686018427387903 ≤ y ∧ y ≤ 4611686018427387903) : -21267647932558653966460912964485513216 < x * y ∧ x * y < 21267647932558653966460912964485513216 := by
  have a : (x * y).natAbs ≤ 4611686018427387903 * 4611686018427387903 := by rw [Int.natAbs_mul]; exact Nat.mul_le_mul (by omega) (by omega)
  omega

set_option maxHeartbeats 1000000 in
theorem mul_any (b off : Nat) (f : Bool) (x y : Int) (w : World) (hc : w.cell? ⟨b, off, none⟩ = some (.bool f)) (hf : w.frozen? ⟨b, off, none⟩ = false) :
    Calls Try.prog 71 #[.pointer (some ⟨b, off, none⟩), .int .i64 x, .int .i64 y] w fun e w' => e = .returned (.int .i64 ((mul x y).getD 0)) ∧ Below w.heap.size (mark ⟨b, off, none⟩ (mul x y) w) w' := by
  have C1 := great2 x y w
  have hb := new_after w (.cells #[.int .i64 x, .int .i64 y] 3)
  have hc' := cell_after hb hc
  have hf' := frozen_after hb hc hf
  cases hg : (great x || great y)
  · have hx : -4611686018427387903 ≤ x ∧ x ≤ 4611686018427387903 := (not_great x).1 (by simp at hg; exact hg.1)
    have hy : -4611686018427387903 ≤ y ∧ y ≤ 4611686018427387903 := (not_great y).1 (by simp at hg; exact hg.2)
    rw [hg] at C1
    have K1 : Hid _ := C1
    have HB : Hid _ := hb
    have HC : Hid _ := hc
    have HF : Hid _ := hf
    have hp := small_prod hx hy
    have C3 : Hid _ := fun w => product_any x y w (by omega) (by omega) (by omega) (by omega)
    have C4 := fun w => byOne_any (x * y) w (by omega) (by omega)
    by_cases hfit : -9223372036854775808 ≤ x * y / 4294967296 ∧ x * y / 4294967296 < 9223372036854775808
    · have hmul : mul x y = told (x * y / 4294967296) := by simp only [mul, hg]; rfl
      rw [hmul]
      rw [IntWalk.wrap64_in _ (by omega), decide_eq_true hfit] at C4
      have K4 : Hid _ := C4
      clear C1 hb hc hf hc' hf' hg hmul C4 hfit hp
      go_enter Try.func71, Try.ntmps71
      go_wp2_with (first
        | (go_at_call 76; refine (Calls.mono K1.out ?_); rintro e w' ⟨rfl, rfl⟩)
        | (go_at_call 79; refine (Calls.mono (C3.out _) ?_); rintro e w1 ⟨rfl, hb1⟩; have B1 : Hid _ := below_step HB.out hb1)
        | (go_at_call 81; refine (Calls.mono (K4.out _) ?_); rintro e w2 ⟨rfl, hb2⟩; have B2 : Hid _ := below_step B1.out hb2)
        | (go_at_call 78; refine (Calls.mono (tell_any b off f _ _ (cell_after B2.out HC.out) (frozen_after B2.out HC.out HF.out)) ?_); rintro e w3 ⟨rfl, hb3⟩))
      go_ret
      exact ⟨rfl, mark_after B2.out hb3⟩
    · have hmul : mul x y = none := by
        have hgr : great (x * y / 4294967296) = true := by rw [great_iff]; omega
        simp only [mul, hg, told, hgr]; rfl
      rw [hmul]
      rw [decide_eq_false hfit] at C4
      have K4 : Hid _ := C4
      clear C1 hb hc hf hc' hf' hg hmul C4 hfit hp
      go_enter Try.func71, Try.ntmps71
      go_wp2_with (first
        | (go_at_call 76; refine (Calls.mono K1.out ?_); rintro e w' ⟨rfl, rfl⟩)
        | (go_at_call 79; refine (Calls.mono (C3.out _) ?_); rintro e w1 ⟨rfl, hb1⟩; have B1 : Hid _ := below_step HB.out hb1)
        | (go_at_call 81; refine (Calls.mono (K4.out _) ?_); rintro e w2 ⟨rfl, hb2⟩; have B2 : Hid _ := below_step B1.out hb2)
        | (go_at_call 78; refine (Calls.mono (tell_any_none b off f _ _ (cell_after B2.out HC.out) (frozen_after B2.out HC.out HF.out)) ?_); rintro e w3 ⟨rfl, hb3⟩))
      go_ret
      exact ⟨rfl, mark_after B2.out hb3⟩
  · have hmul : mul x y = none := by simp only [mul, hg, if_true]
    rw [hmul]
    rw [hg] at C1
    have C2 : Hid _ := none_any b off f _ hc' hf'
    have K1 : Hid _ := C1
    have HB : Hid _ := set_after (p := ⟨b, off, none⟩) (v := .bool true) hb
    clear C1 hb hc hf hc' hf' hg hmul
    go_enter Try.func71, Try.ntmps71
    go_wp2_with (first | (go_at_call 76; refine (Calls.mono K1.out ?_); rintro e w' ⟨rfl, rfl⟩) | (go_at_call 77; refine (Calls.mono C2.out ?_); rintro e w' ⟨rfl, rfl⟩))
    go_ret
    exact ⟨rfl, HB.out⟩

set_option maxHeartbeats 1000000 in
theorem ratio_any (b off : Nat) (f : Bool) (x y z : Int) (w : World) (hc : w.cell? ⟨b, off, none⟩ = some (.bool f)) (hf : w.frozen? ⟨b, off, none⟩ = false) :
    Calls Try.prog 70 #[.pointer (some ⟨b, off, none⟩), .int .i64 x, .int .i64 y, .int .i64 z] w fun e w' => e = .returned (.int .i64 ((ratio x y z).getD 0)) ∧ Below w.heap.size (mark ⟨b, off, none⟩ (ratio x y z) w) w' := by
  by_cases hz : z = 0
  · have hr : ratio x y z = none := by simp only [ratio, hz, if_true]
    rw [hr]
    have C2 : Hid _ := none_any b off f _ hc hf
    have hz' : (z == 0) = true := by simp [hz]
    clear hc hf hz hr
    go_enter Try.func70, Try.ntmps70
    go_wp2_with (first | (go_at_call 77; refine (Calls.mono C2.out ?_); rintro e w' ⟨rfl, rfl⟩))
    go_ret
    exact ⟨rfl, Below.refl _ _⟩
  have hz' : (z == 0) = false := by simp [hz]
  have C1 := great3 x y z w
  have hb := new_after w (.cells #[.int .i64 x, .int .i64 y, .int .i64 z] 3)
  have hc' := cell_after hb hc
  have hf' := frozen_after hb hc hf
  cases hg : (great x || (great y || great z))
  · have hg3 : great x = false ∧ great y = false ∧ great z = false := by simpa using hg
    have hx : -4611686018427387903 ≤ x ∧ x ≤ 4611686018427387903 := (not_great x).1 hg3.1
    have hy : -4611686018427387903 ≤ y ∧ y ≤ 4611686018427387903 := (not_great y).1 hg3.2.1
    have hzz : -4611686018427387903 ≤ z ∧ z ≤ 4611686018427387903 := (not_great z).1 hg3.2.2
    rw [hg] at C1
    have K1 : Hid _ := C1
    have HB : Hid _ := hb
    have HC : Hid _ := hc
    have HF : Hid _ := hf
    have hp := small_prod hx hy
    have C3 : Hid _ := fun w => product_any x y w (by omega) (by omega) (by omega) (by omega)
    obtain ⟨Z, hZ⟩ : ∃ Z, (0 ≤ x * y ∧ Z = x * y) ∨ (x * y < 0 ∧ Z = -(x * y)) := by
      by_cases h : 0 ≤ x * y
      · exact ⟨_, Or.inl ⟨h, rfl⟩⟩
      · exact ⟨_, Or.inr ⟨by omega, rfl⟩⟩
    obtain ⟨d, hd⟩ : ∃ d, (0 < z ∧ d = z) ∨ (z < 0 ∧ d = -z) := by
      by_cases h : 0 < z
      · exact ⟨_, Or.inl ⟨h, rfl⟩⟩
      · exact ⟨_, Or.inr ⟨by omega, rfl⟩⟩
    by_cases hfit : Z / d ≤ 4611686018427387903
    · have hr : ratio x y z = told (fl (x * y) z) := by simp only [ratio, hg, hz]; rfl
      rw [hr]
      have K4 : Hid _ := fun w => by_any (x * y) z Z d w (by omega) (by omega) hZ hd (by omega) hfit
      clear C1 hb hc hf hc' hf' hg hr hfit hp hZ hd hg3 hz
      go_enter Try.func70, Try.ntmps70
      go_wp2_with (first
        | (go_at_call 76; refine (Calls.mono K1.out ?_); rintro e w' ⟨rfl, rfl⟩)
        | (go_at_call 79; refine (Calls.mono (C3.out _) ?_); rintro e w1 ⟨rfl, hb1⟩; have B1 : Hid _ := below_step HB.out hb1)
        | (go_at_call 80; refine (Calls.mono (K4.out _) ?_); rintro e w2 ⟨rfl, hb2⟩; have B2 : Hid _ := below_step B1.out hb2)
        | (go_at_call 78; refine (Calls.mono (tell_any b off f _ _ (cell_after B2.out HC.out) (frozen_after B2.out HC.out HF.out)) ?_); rintro e w3 ⟨rfl, hb3⟩))
      go_ret
      exact ⟨rfl, mark_after B2.out hb3⟩
    · have hr : ratio x y z = none := by
        have hgr : great (fl (x * y) z) = true := by
          rw [great_iff]
          have hd0 : 0 < d := by omega
          have hn := neg_div (T := Z) hd0
          unfold fl
          rcases hZ with ⟨a, rfl⟩ | ⟨a, e⟩ <;> rcases hd with ⟨g, rfl⟩ | ⟨g, rfl⟩
          · rw [if_neg (by omega)]; omega
          · rw [if_pos (by omega), hn]; split <;> omega
          · rw [if_neg (by omega), show x * y = -Z by omega, hn]; split <;> omega
          · rw [if_pos (by omega), ← e]; omega
        simp only [ratio, hz, hg, told, hgr]; rfl
      rw [hr]
      have K4 : Hid _ := fun w => by_none (x * y) z Z d w (by omega) (by omega) hZ hd (by omega) (by omega)
      clear C1 hb hc hf hc' hf' hg hr hfit hp hZ hd hg3 hz
      go_enter Try.func70, Try.ntmps70
      go_wp2_with (first
        | (go_at_call 76; refine (Calls.mono K1.out ?_); rintro e w' ⟨rfl, rfl⟩)
        | (go_at_call 79; refine (Calls.mono (C3.out _) ?_); rintro e w1 ⟨rfl, hb1⟩; have B1 : Hid _ := below_step HB.out hb1)
        | (go_at_call 80; refine (Calls.mono (K4.out _) ?_); rintro e w2 ⟨rfl, hb2⟩; have B2 : Hid _ := below_step B1.out hb2)
        | (go_at_call 78; refine (Calls.mono (tell_any_none b off f _ _ (cell_after B2.out HC.out) (frozen_after B2.out HC.out HF.out)) ?_); rintro e w3 ⟨rfl, hb3⟩))
      go_ret
      exact ⟨rfl, mark_after B2.out hb3⟩
  · have hr : ratio x y z = none := by simp only [ratio, hz, hg, if_true, if_false]
    rw [hr]
    rw [hg] at C1
    have C2 : Hid _ := none_any b off f _ hc' hf'
    have K1 : Hid _ := C1
    have HB : Hid _ := set_after (p := ⟨b, off, none⟩) (v := .bool true) hb
    clear C1 hb hc hf hc' hf' hg hr hz
    go_enter Try.func70, Try.ntmps70
    go_wp2_with (first | (go_at_call 76; refine (Calls.mono K1.out ?_); rintro e w' ⟨rfl, rfl⟩) | (go_at_call 77; refine (Calls.mono C2.out ?_); rintro e w' ⟨rfl, rfl⟩))
    go_ret
    exact ⟨rfl, HB.out⟩

end Go.Proofs.Ytiicpdlaaklahaa
