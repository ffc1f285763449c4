/- Plain mathematics of layer 9: the candidates by their places. -/
import Derived.Test.YtccdgpijjgeedaaKNMath
namespace Go.Proofs.Ytccdgpijjgeedaa
set_option linter.unusedVariables false

/-- The told ones, by their places among all. -/
theorem both_step (X T Y : List Pt) {k : Nat} (h : k < T.length) :
    ((pt T k).lng = Pt.O → both (X ++ T.take (k + 1)) = both (X ++ T.take k)) ∧
    ((pt T k).lng ≠ Pt.O → (both (X ++ T.take (k + 1))).length = (both (X ++ T.take k)).length + 2 ∧ (both (X ++ T.take k)).length + 1 < (both (X ++ (T ++ Y))).length ∧
      pt (both (X ++ (T ++ Y))) (both (X ++ T.take k)).length = (pt T k).lng ∧ pt (both (X ++ (T ++ Y))) ((both (X ++ T.take k)).length + 1) = (pt T k).lng.neg) := by
  have e1 : X ++ T.take (k + 1) = (X ++ T.take k) ++ [pt T k] := by rw [take_pt h, List.append_assoc]
  have e2 : X ++ (T ++ Y) = (X ++ T.take k) ++ ([pt T k] ++ (T.drop (k + 1) ++ Y)) := by
    have e3 : T = T.take k ++ pt T k :: T.drop (k + 1) := by rw [← drop_pt h, List.take_append_drop]
    have e4 : X ++ (T ++ Y) = X ++ ((T.take k ++ pt T k :: T.drop (k + 1)) ++ Y) := congrArg (fun t => X ++ (t ++ Y)) e3
    rw [e4]
    simp [List.append_assoc]
  refine ⟨fun hz => ?_, fun hz => ?_⟩
  · rw [e1, both_app]
    simp [both, hz]
  · have e5 : both [pt T k] = [(pt T k).lng, (pt T k).lng.neg] := by simp [both, hz]
    have e6 : both (X ++ (T ++ Y)) = both (X ++ T.take k) ++ ([(pt T k).lng, (pt T k).lng.neg] ++ both (T.drop (k + 1) ++ Y)) := by rw [e2, both_app (X ++ T.take k), both_app [pt T k], e5]
    have e7 : both (X ++ T.take (k + 1)) = both (X ++ T.take k) ++ [(pt T k).lng, (pt T k).lng.neg] := by rw [e1, both_app (X ++ T.take k), e5]
    generalize both (X ++ T.take k) = U at *
    refine ⟨by rw [e7]; simp, by rw [e6]; simp, ?_, ?_⟩
    · rw [e6]
      have := pt_mid (A := U) (B := [(pt T k).lng, (pt T k).lng.neg]) (C := both (T.drop (k + 1) ++ Y)) (j := 0) (by simp)
      rw [Nat.add_zero] at this
      exact this
    · rw [e6]
      exact pt_mid (A := U) (B := [(pt T k).lng, (pt T k).lng.neg]) (C := both (T.drop (k + 1) ++ Y)) (j := 1) (by simp)
end Go.Proofs.Ytccdgpijjgeedaa
