/- The document's own functions of layer 9: in, all, Sizes. -/
import Derived.Test.YtccdgpijjgeedaaKNrK
namespace Go.Proofs.Ytccdgpijjgeedaa
open Go.RowKit Go.Shelf
set_option linter.unusedVariables false

set_option maxHeartbeats 2000000 in
theorem rin9_any (p : Pt) (m : Int) (w : World) (hm : 0 ≤ m ∧ m ≤ 4611686018427387903) :
    Calls Try.prog 29 #[p.v, .int .i64 m] w fun e W => e = .returned (.bool (p.inB m)) ∧ Below w.heap.size w W := by
  have HI : Hid (p.inB m = decide ((-m ≤ p.x ∧ p.x ≤ m) ∧ (-m ≤ p.y ∧ p.y ≤ m) ∧ (-m ≤ p.z ∧ p.z ≤ m))) := rfl
  obtain ⟨R9, hR9⟩ : ∃ R9, p.inB m = R9 := ⟨_, rfl⟩
  rw [hR9] at HI ⊢
  clear hR9
  obtain ⟨x, y, z⟩ := p
  unfold Pt.v
  dsimp only at *
  obtain ⟨mm, hmm⟩ : ∃ mm, IntKind.i64.wrap (-m) = mm := ⟨_, rfl⟩
  have hm9 : mm = -m := by rw [← hmm, IntKind.wrap_i64]; omega
  rw [← hm9] at HI
  have HM : Hid _ := hm
  clear hm9 hm
  by_cases h1 : mm ≤ x
  · by_cases h2 : x ≤ m
    · by_cases h3 : mm ≤ y
      · by_cases h4 : y ≤ m
        · by_cases h5 : mm ≤ z
          · by_cases h6 : z ≤ m
            · have e9 : R9 = true := by rw [HI.out]; simp [h1, h2, h3, h4, h5, h6]
              subst e9
              go_enter Try.func29, Try.ntmps29
              go_wp2
              go_ret
              exact ⟨rfl, n_after _ _⟩
            · have e9 : R9 = false := by rw [HI.out]; simp [h6]
              subst e9
              go_enter Try.func29, Try.ntmps29
              go_wp2
              go_ret
              exact ⟨rfl, n_after _ _⟩
          · have e9 : R9 = false := by rw [HI.out]; simp [h5]
            subst e9
            go_enter Try.func29, Try.ntmps29
            go_wp2
            go_ret
            exact ⟨rfl, n_after _ _⟩
        · have e9 : R9 = false := by rw [HI.out]; simp [h4]
          subst e9
          go_enter Try.func29, Try.ntmps29
          go_wp2
          go_ret
          exact ⟨rfl, n_after _ _⟩
      · have e9 : R9 = false := by rw [HI.out]; simp [h3]
        subst e9
        go_enter Try.func29, Try.ntmps29
        go_wp2
        go_ret
        exact ⟨rfl, n_after _ _⟩
    · have e9 : R9 = false := by rw [HI.out]; simp [h2]
      subst e9
      go_enter Try.func29, Try.ntmps29
      go_wp2
      go_ret
      exact ⟨rfl, n_after _ _⟩
  · have e9 : R9 = false := by rw [HI.out]; simp [h1]
    subst e9
    go_enter Try.func29, Try.ntmps29
    go_wp2
    go_ret
    exact ⟨rfl, n_after _ _⟩
set_option maxHeartbeats 2000000 in
set_option maxRecDepth 100000 in
theorem rall9_any (Ls : List Pt) (m : Int) (v : Value) (w : World) (hv : Lies w v Ls) (hm : 0 ≤ m) (hm' : m ≤ 1152921504606846976) :
    Calls Try.prog 33 #[v, .int .i64 m] w fun e W => e = .returned (.bool (Ls.all (·.inB m))) ∧ Below w.heap.size w W := by
  obtain ⟨o, cap, rfl, hlc, hcm, hcell⟩ := hv.form
  have HC : Hid _ := hcell
  have HW : Hid _ := fun (p : Pt) (w' : World) => rin9_any p m w' ⟨hm, by omega⟩
  clear hv hcell
  go_enter Try.func33, Try.ntmps33
  go_wp2_with (fail)
  go_loopg [5] Ls.length (fun gm s wr => ∃ i : Nat, s = .int .i64 (i : Int) ∧ i ≤ Ls.length ∧ gm = Ls.length - i ∧ Hid (∀ p ∈ Ls.take i, p.inB m = true) ∧ Hid (Below w.heap.size w wr))
  case atStart => exact ⟨0, rfl, Nat.zero_le _, rfl, by simp [Hid], Below.refl _ _⟩
  case round =>
    obtain ⟨i, rfl, hi, hgm, HT, HB⟩ := hrel
    have HG1 : Hid _ := hgm
    clear hgm
    by_cases hit : i < Ls.length
    · obtain ⟨g, f, rfl, x0, x1, x2⟩ := HC.out i hit
      have y0 := c_after HB.out x0
      have y1 := c_after HB.out x1
      have y2 := c_after HB.out x2
      have HWp : Hid _ := fun w' => HW.out (pt Ls i) w'
      have HTK : Hid (Ls.take (i + 1) = Ls.take i ++ [pt Ls i]) := take_pt hit
      have HM : Hid (pt Ls i ∈ Ls) := pt_mem hit
      generalize pt Ls i = q at *
      obtain ⟨qx, qy, qz⟩ := q
      unfold Pt.v at HWp
      dsimp only at *
      clear x0 x1 x2 HC HW
      go_wp2_with (fail)
      refine Calls.mono (HWp.out _) ?_
      rintro e V ⟨rfl, hb⟩
      have HB2 : Hid _ := b_step HB.out hb
      clear hb y0 y1 y2
      cases hin : Pt.inB ⟨qx, qy, qz⟩ m with
      | true =>
        have HIN : Hid _ := hin
        clear hin
        go_wp2_with (fail)
        go_roundg (Ls.length - (i + 1))
        case rel =>
          refine ⟨i + 1, by simp, by omega, rfl, fun p hp => ?_, HB2⟩
          rw [HTK.out, List.mem_append] at hp
          rcases hp with hp | hp
          · exact HT.out p hp
          · rw [List.mem_singleton.1 hp]; exact HIN.out
        case measure => have := HG1.out; omega
      | false =>
        have HAL : Hid (Ls.all (·.inB m) = false) := by
          show _ = _
          rw [List.all_eq_false]
          exact ⟨_, HM.out, by rw [hin]; decide⟩
        clear hin
        go_wp2_with (fail)
        go_ret
        exact ⟨by rw [HAL.out]; rfl, HB2.out⟩
    · obtain rfl : i = Ls.length := by omega
      have HAL : Hid (Ls.all (·.inB m) = true) := by
        show _ = _
        rw [List.all_eq_true]
        intro p hp
        exact HT.out p (by rw [List.take_length]; exact hp)
      go_wp2_with (fail)
      go_ret
      exact ⟨by rw [HAL.out]; rfl, HB.out⟩
end Go.Proofs.Ytccdgpijjgeedaa
