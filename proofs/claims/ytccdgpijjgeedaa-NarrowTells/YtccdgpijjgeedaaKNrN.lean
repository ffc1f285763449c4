/- The document's own May of layer 9. -/
import Derived.Test.YtccdgpijjgeedaaKNrM
namespace Go.Proofs.Ytccdgpijjgeedaa
open Go.RowKit Go.Shelf
set_option linter.unusedVariables false

theorem may_no {c : Cr} (h : c.P.length < 1 ∨ 32 < c.P.length ∨ 128 < c.A.length ∨ 128 < c.E.length ∨ c.r < 0 ∨ 65536 < c.r) : mayC c = false := by
  cases hm : mayC c with
  | false => rfl
  | true =>
    unfold mayC at hm
    simp only [Bool.and_eq_true, decide_eq_true_eq] at hm
    omega
theorem may_yes {c : Cr} (h1 : 1 ≤ c.P.length ∧ c.P.length ≤ 32) (h2 : c.A.length ≤ 128) (h3 : c.E.length ≤ 128) (h4 : 0 ≤ c.r ∧ c.r ≤ 65536) : mayC c = (c.P.all (·.inB 16777216) && (c.A.all (·.inB 1048576) && c.E.all (·.inB 1048576))) := by
  unfold mayC
  rw [decide_eq_true h1, decide_eq_true h2, decide_eq_true h3, decide_eq_true h4]
  generalize c.P.all (·.inB 16777216) = a
  generalize c.A.all (·.inB 1048576) = b
  generalize c.E.all (·.inB 1048576) = d
  cases a <;> cases b <;> cases d <;> rfl

set_option maxHeartbeats 4000000 in
set_option maxRecDepth 100000 in
theorem rmay9_any (c : Cr) (pv av ev : Value) (w0 : World) (hp : Lies w0 pv c.P) (ha : Lies w0 av c.A) (he : Lies w0 ev c.E) :
    Calls Try.prog 23 #[coreA pv av ev c.r] w0 fun e W => e = .returned (.bool (mayC c)) ∧ Below w0.heap.size w0 W := by
  have HN : Hid _ := fun h => may_no (c := c) h
  have HY : Hid _ := fun h1 h2 h3 h4 => may_yes (c := c) h1 h2 h3 h4
  obtain ⟨R9, hR9⟩ : ∃ R, mayC c = R := ⟨_, rfl⟩
  rw [hR9] at HN HY ⊢
  clear hR9
  obtain ⟨P, A, E, r⟩ := c
  dsimp only at *
  obtain ⟨o, cap, rfl, hlc, hcm, _⟩ := hp.form
  obtain ⟨o2, cap2, rfl, _, _, _⟩ := ha.form
  obtain ⟨o3, cap3, rfl, _, _, _⟩ := he.form
  have H2 : Hid _ := fun (w' : World) (h : Below w0.heap.size w0 w') => rall9_any P 16777216 _ w' (hp.below h) (by decide) (by decide)
  have H3 : Hid _ := fun (w' : World) (h : Below w0.heap.size w0 w') => rall9_any A 1048576 _ w' (ha.below h) (by decide) (by decide)
  have H4 : Hid _ := fun (w' : World) (h : Below w0.heap.size w0 w') => rall9_any E 1048576 _ w' (he.below h) (by decide) (by decide)
  clear hp ha he hlc hcm
  generalize P.all (·.inB 16777216) = k2 at *
  generalize A.all (·.inB 1048576) = k3 at *
  generalize E.all (·.inB 1048576) = k4 at *
  unfold coreA at *
  go_enter Try.func23, Try.ntmps23
  obtain ⟨V, hV⟩ : ∃ V, V = w0.alloc (.cells #[.slice o P.length cap, .slice o2 A.length cap2, .slice o3 E.length cap3, .int .i64 r] 24) := ⟨_, rfl⟩
  obtain ⟨cb, hcb⟩ : ∃ b, b = w0.heap.size := ⟨_, rfl⟩
  have HB : Hid (Below w0.heap.size w0 V) := by show Below _ _ _; rw [hV]; exact n_after _ _
  have HC : Hid _ := Cells4.new w0 (.slice o P.length cap) (.slice o2 A.length cap2) (.slice o3 E.length cap3) r 24
  rw [← hV, ← hcb] at HC
  go_upto_region 1 with fail
  rw [← hV, ← hcb]
  clear hV hcb
  obtain ⟨q0, q1, q2, q3⟩ := HC.out
  by_cases c0 : (P.length : Int) < 1
  · have e9 : R9 = false := HN.out (by omega)
    subst e9
    go_wp2_with (fail)
    go_ret
    exact ⟨rfl, HB.out⟩
  · skip
    by_cases c1 : (32 : Int) < P.length
    · have e9 : R9 = false := HN.out (by omega)
      subst e9
      go_wp2_with (fail)
      go_ret
      exact ⟨rfl, HB.out⟩
    · skip
      by_cases c2 : (128 : Int) < A.length
      · have e9 : R9 = false := HN.out (by omega)
        subst e9
        go_wp2_with (fail)
        go_ret
        exact ⟨rfl, HB.out⟩
      · skip
        by_cases c3 : (128 : Int) < E.length
        · have e9 : R9 = false := HN.out (by omega)
          subst e9
          go_wp2_with (fail)
          go_ret
          exact ⟨rfl, HB.out⟩
        · skip
          by_cases c4 : r < 0
          · have e9 : R9 = false := HN.out (by omega)
            subst e9
            go_wp2_with (fail)
            go_ret
            exact ⟨rfl, HB.out⟩
          · skip
            by_cases c5 : 65536 < r
            · have e9 : R9 = false := HN.out (by omega)
              subst e9
              go_wp2_with (fail)
              go_ret
              exact ⟨rfl, HB.out⟩
            · have e9 : Hid _ := HY.out (by omega) (by omega) (by omega) (by omega)
              clear HN HY
              go_wp2_with (fail)
              refine Calls.mono (H2.out _ HB.out) ?_
              rintro e V2 ⟨rfl, hb⟩
              have q1 := c_after hb q1
              have q2 := c_after hb q2
              have HB : Hid _ := b_step HB.out hb
              clear hb q0 q3
              go_wp2_with (fail)
              refine Calls.mono (H3.out _ HB.out) ?_
              rintro e V3 ⟨rfl, hb⟩
              have q2 := c_after hb q2
              have HB : Hid _ := b_step HB.out hb
              clear hb q1
              go_wp2_with (fail)
              refine Calls.mono (H4.out _ HB.out) ?_
              rintro e V4 ⟨rfl, hb⟩
              have HB : Hid _ := b_step HB.out hb
              clear hb q2
              cases k2 with
              | false =>
                go_wp2_with (fail)
                go_ret
                exact ⟨by rw [e9.out]; rfl, HB.out⟩
              | true =>
                cases k3 with
                | false =>
                  go_wp2_with (fail)
                  go_ret
                  exact ⟨by rw [e9.out]; rfl, HB.out⟩
                | true =>
                  go_wp2_with (fail)
                  go_ret
                  exact ⟨by rw [e9.out]; rfl, HB.out⟩
end Go.Proofs.Ytccdgpijjgeedaa
