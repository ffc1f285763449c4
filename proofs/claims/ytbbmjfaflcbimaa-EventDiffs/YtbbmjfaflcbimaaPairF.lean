/- Without of a set: slices.IndexFunc and slices.DeleteFunc with its test. -/
import Derived.Test.YtbbmjfaflcbimaaPairE
namespace Go.Proofs.Ytbbmjfaflcbimaa
open Go.RowKit Go.Shelf
set_option linter.unusedVariables false

/-- Whether a pair is of a handle. -/
def ofH (h : Int) (p : Pr) : Bool := p.a == h || p.b == h
/-- A list whose first i are put in place of others: what a round of DeleteFunc leaves. -/
theorem filter_pt {L : List Pr} {f : Pr → Bool} {k : Nat} (hk : k < L.length) : (L.take (k + 1)).filter f = (L.take k).filter f ++ (if f (pt L k) then [pt L k] else []) := by
  rw [List.take_succ_eq_append_getElem hk, List.filter_append]
  have : pt L k = L[k] := by unfold pt; rw [List.getElem?_eq_getElem hk]; rfl
  rw [this]
  congr 1
  simp only [List.filter_cons, List.filter_nil]
theorem filter_pre {L : List Pr} {f : Pr → Bool} {i : Nat} (hi : i ≤ L.length) (h : ∀ j, j < i → f (pt L j) = true) : (L.take i).filter f = L.take i := List.filter_eq_self.2 fun q hq => by
  obtain ⟨j, hj, rfl⟩ := List.mem_iff_getElem.1 hq
  simp only [List.length_take] at hj
  have := h j (by omega)
  unfold pt at this
  rw [List.getElem?_eq_getElem (by omega)] at this
  rw [List.getElem_take]
  exact this

/-- The row half way: its first ones are those that stay, from k on it is as it was. -/
def Half (L : List Pr) (f : Pr → Bool) (k : Nat) (xs : List Value) : Prop :=
  xs.length = L.length * 2 ∧ xs.take (((L.take k).filter f).length * 2) = flat ((L.take k).filter f) ∧ ∀ j, k * 2 ≤ j → j < L.length * 2 → xs[j]? = (flat L)[j]?
theorem half_len {L : List Pr} {f : Pr → Bool} {k : Nat} (hk : k ≤ L.length) : ((L.take k).filter f).length ≤ k := Nat.le_trans (List.length_filter_le _ _) (by simp; omega)
theorem half_skip {L : List Pr} {f : Pr → Bool} {k : Nat} {xs : List Value} (h : Half L f k xs) (hk : k < L.length) (hf : f (pt L k) = false) : Half L f (k + 1) xs := by
  have e : (L.take (k + 1)).filter f = (L.take k).filter f := by rw [filter_pt hk, hf]; simp
  refine ⟨h.1, ?_, fun j hj hl => h.2.2 j (by omega) hl⟩
  rw [e]; exact h.2.1
theorem half_keep {L : List Pr} {f : Pr → Bool} {k : Nat} {xs : List Value} (h : Half L f k xs) (hk : k < L.length) (hf : f (pt L k) = true) {i : Nat} (hi : i = ((L.take k).filter f).length) :
    Half L f (k + 1) ((xs.set (i * 2) (.int .i64 (pt L k).a)).set (i * 2 + 1) (.int .i64 (pt L k).b)) := by
  have e : (L.take (k + 1)).filter f = (L.take k).filter f ++ [pt L k] := by rw [filter_pt hk, hf]; simp
  have hik : i ≤ k := by rw [hi]; exact half_len (by omega)
  refine ⟨by simpa using h.1, ?_, fun j hj hl => ?_⟩
  · rw [e, flat_append, List.length_append, ← hi]
    have e2 : (i + [pt L k].length) * 2 = i * 2 + 1 + 1 := by simp; omega
    have hl := h.1
    rw [e2, List.take_succ_eq_append_getElem (by simp; omega), List.take_succ_eq_append_getElem (by simp; omega)]
    have t1 : ((xs.set (i * 2) (.int .i64 (pt L k).a)).set (i * 2 + 1) (.int .i64 (pt L k).b)).take (i * 2) = flat ((L.take k).filter f) := by
      rw [List.take_set_of_le (by omega), List.take_set_of_le (by omega), hi]; exact h.2.1
    rw [t1, List.append_assoc]
    congr 1
    simp only [List.getElem_set, flat]
    simp
  · rw [List.getElem?_set_ne (by omega), List.getElem?_set_ne (by omega)]
    exact h.2.2 j (by omega) hl

end Go.Proofs.Ytbbmjfaflcbimaa
