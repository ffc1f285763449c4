/- The whole square root of a number of 128 bits, down (package fx, wide.root): its walk. -/
import Derived.Test.YtioailboehpcaaaRoot
namespace Go.Proofs.Ytioailboehpcaaa
open Go.RowKit Fx

theorem root_world {w wr : World} {o : Obj} (hb : Below (w.alloc o).heap.size (w.alloc o) wr) : Below w.heap.size w wr :=
  ((Below.refl _ _).alloc (Nat.le_refl _) _).trans (hb.mono (by simp))

set_option maxHeartbeats 400000 in
theorem root_any (X : Int) (w : World) (h0 : 0 ≤ X) (h1 : X < 170141183460469231731687303715884105728) :
    Calls Try.prog 63 #[.agg #[.int .u64 (X / 18446744073709551616 % 18446744073709551616), .int .u64 (X % 18446744073709551616)]] w fun e w' =>
      e = .returned (.tuple #[.int .i64 (wrap64 (isq X.toNat)), .bool (decide ((isq X.toNat : Int) ≤ 4611686018427387903))]) ∧ Below w.heap.size w w' := by
  have CL := fun w => length_any X w h0 h1
  have CA := fun n w a b => above_any n X w a b h0 h1
  obtain ⟨h, hh⟩ : ∃ u, u = X / 18446744073709551616 % 18446744073709551616 := ⟨_, rfl⟩
  obtain ⟨l, hl⟩ : ∃ u, u = X % 18446744073709551616 := ⟨_, rfl⟩
  rw [← hh, ← hl] at CL CA ⊢
  have KL : Hid _ := CL
  have KA : Hid _ := CA
  have H0 : Hid _ := h0
  clear hh hl CL CA h0 h1
  go_enter Try.func63, Try.ntmps63
  go_wp2_with (go_at_call 71; refine (KL.out _).mono ?_; rintro e w1 ⟨⟨N, rfl, hN, HX⟩, hb⟩; obtain ⟨c1, c2, hsz⟩ := boxed hb)
  go_loopw [4, 5] (fun a b wr => ∃ (n p : Int) (k : Nat), a = .int .u64 n ∧ b = .int .i64 p ∧ p + 1 = k ∧ p ≤ 63 ∧ Hid (RInv X n k) ∧ Below (w.alloc (.cells #[.int .u64 h, .int .u64 l] 76)).heap.size (w.alloc (.cells #[.int .u64 h, .int .u64 l] 76)) wr) (fun _ b _ => (intOf b + 1).toNat)
  case atStart => exact ⟨_, _, (N + 1) / 2, rfl, rfl, by omega, by omega, rinv_start H0.out hN HX.out, hb⟩
  case round =>
    obtain ⟨n, p, k, rfl, rfl, hk, hp, HI, hbr⟩ := hrel
    obtain ⟨d1, d2, hsr⟩ := boxed hbr
    rcases k with _ | j
    · have hp1 : p = -1 := by omega
      subst hp1
      have hI := HI.out
      obtain ⟨_, i1, i2, i3, i4⟩ := hI
      simp at i2 i4
      obtain rfl : n = (isq X.toNat : Int) := isq_of i3 i1 i2
      clear i1 i2 hk
      go_wp2
      go_returns
      exact ⟨rfl, root_world hbr⟩
    · have hp1 : p = (j : Int) := by omega
      subst hp1
      have hI := HI.out
      have hN0 : 0 ≤ n := hI.2.2.2.1
      have nx := rinv_next hI
      have hor := root_or hN0 nx.1 hI.1
      have hpw : (0 : Int) < 2 ^ j := Int.pow_pos (by omega)
      have hw : IntKind.u64.wrap (2 ^ j) = 2 ^ j := by rw [IntKind.wrap_u64]; omega
      have hw' : IntKind.u64.wrap (1 * 2 ^ j) = 2 ^ j := by rw [Int.one_mul]; exact hw
      have hK := fun w => KA.out (n + 2 ^ j) w (by omega) nx.1
      obtain ⟨m, hm⟩ : ∃ m, m = n + 2 ^ j := ⟨_, rfl⟩
      rw [← hm] at hK hor
      by_cases hc : X < m * m
      · have hK : Hid (∀ w, Calls Try.prog 72 #[.int .u64 m, .agg #[.int .u64 h, .int .u64 l]] w fun e w' => e = .returned (.bool true) ∧ Below w.heap.size w w') := fun w => by simpa [hc] using hK w
        have I2 : Hid (RInv X n j) := rinv_stay hI (by rw [← hm]; exact hc)
        clear hI nx hc hm hpw
        go_wp2_with (go_at_call 72; refine (hK.out _).mono ?_; rintro e w2 ⟨rfl, hb2⟩)
        go_roundw
        case rel => exact ⟨_, _, j, rfl, rfl, by omega, by omega, I2, hbr.trans (hb2.mono (by have := hbr.size; omega))⟩
        case measure => simp [intOf]
      · have hK : Hid (∀ w, Calls Try.prog 72 #[.int .u64 m, .agg #[.int .u64 h, .int .u64 l]] w fun e w' => e = .returned (.bool false) ∧ Below w.heap.size w w') := fun w => by simpa [hc] using hK w
        have I2 : Hid (RInv X m j) := by rw [hm]; exact rinv_up hI (by rw [← hm]; omega)
        clear hI nx hc hm hpw
        go_wp2_with (go_at_call 72; refine (hK.out _).mono ?_; rintro e w2 ⟨rfl, hb2⟩)
        go_roundw
        case rel => exact ⟨_, _, j, rfl, rfl, by omega, by omega, I2, hbr.trans (hb2.mono (by have := hbr.size; omega))⟩
        case measure => simp [intOf]
end Go.Proofs.Ytioailboehpcaaa
