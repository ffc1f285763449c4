/- The laws' own test whether one of some numbers is great. -/
import Derived.Test.YtbjjpccaiciahaaAwake
namespace Go.Proofs.Ytbjjpccaiciahaa
open Go.RowKit Fx

set_option maxHeartbeats 1000000 in
theorem bad_any (zs : List Int) (b off cap : Nat) (w : World) (hlen : zs.length ≤ 4611686018427387904) (hc : ∀ k, k < zs.length → w.cell? ⟨b, off + k, none⟩ = some (.int .i64 (zs.getD k 0))) :
    Calls Try.prog 26 #[.slice (some ⟨b, off, none⟩) zs.length cap] w fun e w' => e = .returned (.bool (zs.any great)) ∧ w' = w := by
  have HC : Hid _ := hc
  clear hc
  go_enter Try.func26, Try.ntmps26
  go_wp2
  go_loop [3] (fun i => ∃ k : Nat, k ≤ zs.length ∧ i = .int .i64 k ∧ Hid ((zs.take k).any great = false)) (fun i => zs.length - (intOf i).toNat)
  case atStart => exact ⟨0, Nat.zero_le _, rfl, by simp [Hid]⟩
  case round =>
    obtain ⟨k, hk, rfl, HG⟩ := hrel
    by_cases hlt : k < zs.length
    · have hcell := HC.out k hlt
      have hs := great_step zs k hlt HG.out
      obtain ⟨z, hz⟩ : ∃ z, zs.getD k 0 = z := ⟨_, rfl⟩
      rw [hz] at hcell hs
      have HS : Hid _ := hs
      clear hs hz
      by_cases g1 : z < -4611686018427387903
      · have hany : zs.any great = true := by
          have : (zs.take (k + 1)).any great = true := by rw [HS.out]; simp [great, g1]
          rw [List.any_eq_true] at this ⊢
          obtain ⟨x, hx, hg⟩ := this
          exact ⟨x, List.mem_of_mem_take hx, hg⟩
        go_wp2
        go_ret
        exact ⟨rfl, rfl⟩
      · by_cases g2 : 4611686018427387903 < z
        · have hany : zs.any great = true := by
            have : (zs.take (k + 1)).any great = true := by rw [HS.out]; simp [great, g2]
            rw [List.any_eq_true] at this ⊢
            obtain ⟨x, hx, hg⟩ := this
            exact ⟨x, List.mem_of_mem_take hx, hg⟩
          go_wp2
          go_ret
          exact ⟨rfl, rfl⟩
        · have hno : Hid ((zs.take (k + 1)).any great = false) := by
            show _ = false
            rw [HS.out]; simp [great]; omega
          go_wp2
          go_round
          case rel => exact ⟨k + 1, by omega, by go_num, hno⟩
          case measure => simp [intOf]; omega
    · have hany : zs.any great = false := by
        have := HG.out
        rwa [List.take_of_length_le (by omega)] at this
      go_wp2
      go_ret
      exact ⟨rfl, rfl⟩

set_option maxHeartbeats 1000000 in
theorem bad_nil (a : Option Addr) (cap : Nat) (w : World) :
    Calls Try.prog 26 #[.slice a 0 cap] w fun e w' => e = .returned (.bool false) ∧ w' = w := by
  go_enter Try.func26, Try.ntmps26
  go_wp2
  go_rounds 1
  go_ret
  exact ⟨rfl, rfl⟩

theorem bad1 (a : Int) (w : World) : Calls Try.prog 26 #[.slice (some ⟨w.heap.size, 0, none⟩) 1 1] (w.alloc (.cells #[.int .i64 a] 3)) fun e w' => e = .returned (.bool (great a)) ∧ w' = w.alloc (.cells #[.int .i64 a] 3) := by
  have h := bad_any [a] w.heap.size 0 1 (w.alloc (.cells #[.int .i64 a] 3)) (by simp) (fun k hk => by
    match k, hk with
    | 0, _ => simp)
  simpa using h

theorem bad2 (a b : Int) (w : World) : Calls Try.prog 26 #[.slice (some ⟨w.heap.size, 0, none⟩) 2 2] (w.alloc (.cells #[.int .i64 a, .int .i64 b] 3)) fun e w' => e = .returned (.bool (great a || great b)) ∧ w' = w.alloc (.cells #[.int .i64 a, .int .i64 b] 3) := by
  have h := bad_any [a, b] w.heap.size 0 2 (w.alloc (.cells #[.int .i64 a, .int .i64 b] 3)) (by simp) (fun k hk => by
    match k, hk with
    | 0, _ => simp
    | 1, _ => simp)
  simpa using h

theorem bad3 (a b c : Int) (w : World) : Calls Try.prog 26 #[.slice (some ⟨w.heap.size, 0, none⟩) 3 3] (w.alloc (.cells #[.int .i64 a, .int .i64 b, .int .i64 c] 3)) fun e w' => e = .returned (.bool (great a || (great b || great c))) ∧ w' = w.alloc (.cells #[.int .i64 a, .int .i64 b, .int .i64 c] 3) := by
  have h := bad_any [a, b, c] w.heap.size 0 3 (w.alloc (.cells #[.int .i64 a, .int .i64 b, .int .i64 c] 3)) (by simp) (fun k hk => by
    match k, hk with
    | 0, _ => simp
    | 1, _ => simp
    | 2, _ => simp)
  simpa using h

end Go.Proofs.Ytbjjpccaiciahaa
