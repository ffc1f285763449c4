/- The document's own Sizes of layer 9. -/
import Derived.Test.YtccdgpijjgeedaaKNrL
namespace Go.Proofs.Ytccdgpijjgeedaa
open Go.RowKit Go.Shelf
set_option linter.unusedVariables false

set_option maxHeartbeats 4000000 in
set_option maxRecDepth 100000 in
theorem rsizes9_any (n : Pt) (w : World) :
    Calls Try.prog 13 #[n.v] w fun e W => e = .returned (.tuple #[.int .i64 (dnT n), .int .i64 (upT n)]) ∧ Below w.heap.size w W := by
  have HW : Hid _ := fun w' => rin9_any n 16777216 w' (by decide)
  have HD : Hid _ := fun w' (h : n.inB 16777216 = true) => nrdot_any n n w' (inB_mono h (by decide)) (inB_mono h (by decide))
  cases hin : n.inB 16777216 with
  | true =>
    obtain ⟨q0, q1⟩ := dot_rng hin
    have HT1 : Hid (dnT n = dn n) := by show _ = _; simp [dnT, hin]
    have HT2 : Hid (upT n = if dn n * dn n = n.dot n then dn n else dn n + 1) := by show _ = _; simp [upT, up, hin]
    have HDO : Hid (∀ r : Int, 0 ≤ r → r * r ≤ n.dot n → n.dot n < (r + 1) * (r + 1) → r = dn n) := fun r h1 h2 h3 => dn_of h1 h2 h3
    have HW1 : Hid _ := fun w' => HW.out w'
    simp only [hin] at HW1
    have HD1 : Hid _ := fun w' => HD.out w' hin
    clear hin HW HD
    generalize dn n = d at *
    generalize n.dot n = q at *
    obtain ⟨x, y, z⟩ := n
    unfold Pt.v at *
    dsimp only at *
    go_enter Try.func13, Try.ntmps13
    go_wp2_with (fail)
    refine Calls.mono (HW1.out _) ?_
    rintro e V ⟨rfl, hb⟩
    have B3 : Hid _ := (Box3.new w x y z 26).step hb
    have hB : Hid _ := b_step (n_after w _) hb
    clear hb
    obtain ⟨c0, c1, c2, _, _, _⟩ := B3.out
    go_wp2_with (fail)
    refine Calls.mono (HD1.out _) ?_
    rintro e V2 ⟨rfl, hb⟩
    have hB : Hid _ := b_step hB.out hb
    clear hb c0 c1 c2 B3 HD1 HW1
    go_wp2_with (fail)
    go_loopg [6, 7] 67108864 (fun gm s6 s7 wr => ∃ lo hi : Int, s6 = .int .i64 lo ∧ s7 = .int .i64 hi ∧ wr = V2 ∧ 0 ≤ lo ∧ lo < hi ∧ hi ≤ 67108864 ∧ Hid (gm = (hi - lo).toNat) ∧ Hid (lo * lo ≤ q) ∧ Hid (q < hi * hi))
    case atStart => exact ⟨0, 67108864, rfl, rfl, rfl, by omega, by omega, by omega, by show _ = _; omega, by show _ ≤ _; omega, by show _ < _; omega⟩
    case round =>
      obtain ⟨lo, hi, rfl, rfl, rfl, h0, h1, h2, HG, HL, HH⟩ := hrel
      obtain ⟨k, hk⟩ : ∃ k, hi - lo = k := ⟨_, rfl⟩
      have hkw : IntKind.i64.wrap (hi - lo) = k := by rw [hk, IntKind.wrap_i64]; omega
      have HK : Hid _ := hk
      clear hk
      by_cases hgt : 1 < k
      · obtain ⟨sm, hsm⟩ : ∃ k, lo + hi = k := ⟨_, rfl⟩
        have hsw : IntKind.i64.wrap (lo + hi) = sm := by rw [hsm, IntKind.wrap_i64]; omega
        obtain ⟨mid, hmid⟩ : ∃ c, sm.tdiv 2 = c := ⟨_, rfl⟩
        have hm9 : lo < mid ∧ mid < hi := by
          have := Int.tdiv_eq_ediv_of_nonneg (a := sm) (b := 2) (by omega)
          have := HK.out
          omega
        have hcw : wrap64 mid = mid := w64 (by omega) (by omega)
        have hmm := mul_in (a := mid) (b := mid) (A := 67108864) (B := 67108864) (by omega) (by omega)
        obtain ⟨sq, hsq⟩ : ∃ c, mid * mid = c := ⟨_, rfl⟩
        have hqw : IntKind.i64.wrap (mid * mid) = sq := by rw [hsq, IntKind.wrap_i64]; omega
        have HSQ : Hid _ := hsq
        have HM9 : Hid _ := hm9
        clear hsm hsq hmm hm9
        by_cases hle : sq ≤ q
        · have HQ2 : Hid (mid * mid ≤ q) := by show _ ≤ _; rw [HSQ.out]; exact hle
          go_wp2_with (fail)
          go_roundg ((hi - mid).toNat)
          case rel => have := HM9.out; exact ⟨mid, hi, (by first | rfl | rw [hcw]), rfl, rfl, by omega, by omega, by omega, rfl, HQ2, HH⟩
          case measure => have := HM9.out; have := HG.out; omega
        · have HQ2 : Hid (q < mid * mid) := by show _ < _; rw [HSQ.out]; omega
          go_wp2_with (fail)
          go_roundg ((mid - lo).toNat)
          case rel => have := HM9.out; exact ⟨lo, mid, rfl, (by first | rfl | rw [hcw]), rfl, by omega, by omega, by omega, rfl, HL, HQ2⟩
          case measure => have := HM9.out; have := HG.out; omega
      · have e9 : hi = lo + 1 := by have := HK.out; omega
        have ed : lo = d := HDO.out lo h0 HL.out (by have := HH.out; rw [e9] at this; exact this)
        subst ed
        have hmm := mul_in (a := lo) (b := lo) (A := 67108864) (B := 67108864) (by omega) (by omega)
        obtain ⟨sq, hsq⟩ : ∃ sq, lo * lo = sq := ⟨_, rfl⟩
        have hsw : IntKind.i64.wrap (lo * lo) = sq := by rw [hsq, IntKind.wrap_i64]; omega
        rw [hsq] at HT2
        clear hmm hsq HDO HL HH HG HK e9
        by_cases he : sq = q
        · rw [if_pos he] at HT2
          go_wp2_with (fail)
          exact bodyPost_ret (v := .tuple #[.int .i64 lo, .int .i64 lo]) (by simp [results, Try.results13, go_sem]) rfl ⟨by rw [HT1.out, HT2.out], hB.out⟩
        · rw [if_neg he] at HT2
          have hw1 : IntKind.i64.wrap (lo + 1) = lo + 1 := by rw [IntKind.wrap_i64]; omega
          go_wp2_with (fail)
          exact bodyPost_ret (v := .tuple #[.int .i64 lo, .int .i64 (lo + 1)]) (by simp [results, Try.results13, go_sem]) rfl ⟨by rw [HT1.out, HT2.out], hB.out⟩
  | false =>
    have HT1 : Hid (dnT n = 0) := by show _ = _; simp [dnT, hin]
    have HT2 : Hid (upT n = 0) := by show _ = _; simp [upT, hin]
    have HW1 : Hid _ := fun w' => HW.out w'
    simp only [hin] at HW1
    clear hin HD HW
    obtain ⟨x, y, z⟩ := n
    unfold Pt.v at *
    dsimp only at *
    go_enter Try.func13, Try.ntmps13
    go_wp2_with (fail)
    refine Calls.mono (HW1.out _) ?_
    rintro e V ⟨rfl, hb⟩
    have hB : Hid _ := b_step (n_after w _) hb
    clear hb
    go_wp2_with (fail)
    exact bodyPost_ret (v := .tuple #[.int .i64 0, .int .i64 0]) (by simp [results, Try.results13, go_sem]) rfl ⟨by rw [HT1.out, HT2.out], hB.out⟩
end Go.Proofs.Ytccdgpijjgeedaa
