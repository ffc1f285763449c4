/- Rings of events, as lists: plain. -/
import Derived.Laws.OwnMore
import Derived.Test.YtbbmjfaflcbimaaProg
namespace Go.Proofs.Ytbbmjfaflcbimaa
set_option linter.unusedVariables false

/-- An event. -/
structure Ev where
  k : Int
  a : Int
  b : Int
def Ev.O : Ev := ⟨0, 0, 0⟩
def Ev.v (e : Ev) : Value := .agg #[.int .i64 e.k, .int .i64 e.a, .int .i64 e.b]
def evAt (R : List Ev) (i : Nat) : Ev := R[i]?.getD Ev.O
/-- Their cells. -/
def evs : List Ev → List Value
  | [] => []
  | p :: r => .int .i64 p.k :: .int .i64 p.a :: .int .i64 p.b :: evs r
theorem evs_length : ∀ L : List Ev, (evs L).length = L.length * 3
  | [] => rfl
  | p :: r => by simp only [evs, List.length_cons, evs_length r]; omega
theorem evs_append : ∀ A B : List Ev, evs (A ++ B) = evs A ++ evs B
  | [], B => rfl
  | p :: r, B => by simp [evs, evs_append r B]
theorem evs_at : ∀ (L : List Ev) (i : Nat), i < L.length → (evs L)[i * 3]? = some (.int .i64 (evAt L i).k) ∧ (evs L)[i * 3 + 1]? = some (.int .i64 (evAt L i).a) ∧ (evs L)[i * 3 + 2]? = some (.int .i64 (evAt L i).b)
  | [], i, h => by simp at h
  | p :: r, 0, _ => ⟨rfl, rfl, rfl⟩
  | p :: r, i + 1, h => by
    have := evs_at r i (by simpa using h)
    rw [show (i + 1) * 3 = i * 3 + 3 by omega]
    simpa [evs, evAt] using this
theorem evs_one (L : List Ev) : ∀ u ∈ evs L, u.oneCell' = true := by
  induction L with
  | nil => intro u hu; cases hu
  | cons p r ih =>
    intro u hu
    simp only [evs, List.mem_cons] at hu
    rcases hu with rfl | rfl | rfl | hu
    · rfl
    · rfl
    · rfl
    · exact ih u hu
theorem evs_drop : ∀ (L : List Ev) (j : Nat), (evs L).drop (j * 3) = evs (L.drop j)
  | L, 0 => by simp
  | [], j + 1 => by simp [evs]
  | p :: r, j + 1 => by
    rw [show (j + 1) * 3 = j * 3 + 1 + 1 + 1 by omega]
    simp only [evs, List.drop_succ_cons]
    exact evs_drop r j
theorem evs_take : ∀ (L : List Ev) (j : Nat), (evs L).take (j * 3) = evs (L.take j)
  | L, 0 => by simp [evs]
  | [], j + 1 => by simp [evs]
  | p :: r, j + 1 => by
    rw [show (j + 1) * 3 = j * 3 + 1 + 1 + 1 by omega]
    simp only [evs, List.take_succ_cons]
    rw [evs_take r j]
theorem evAt_get {L : List Ev} {i : Nat} (h : i < L.length) : L[i]? = some (evAt L i) := by unfold evAt; rw [List.getElem?_eq_getElem h]; rfl
theorem evAt_append_left {A B : List Ev} {i : Nat} (h : i < A.length) : evAt (A ++ B) i = evAt A i := by unfold evAt; rw [List.getElem?_append_left h]
theorem evs_ext {A B : List Ev} (hl : A.length = B.length) (h : ∀ i, i < A.length → evAt A i = evAt B i) : A = B := by
  apply List.ext_getElem hl
  intro i h1 h2
  have := h i h1
  unfold evAt at this
  rw [List.getElem?_eq_getElem h1, List.getElem?_eq_getElem h2] at this
  simpa using this
theorem mod_two {x n : Nat} (h : x < 2 * n) : x % n = if x < n then x else x - n := by
  split
  · exact Nat.mod_eq_of_lt ‹_›
  · rw [Nat.mod_eq_sub_mod (by omega), Nat.mod_eq_of_lt (by omega)]
/-- What a ring holds: c things from f on. -/
def ring (R : List Ev) (f c : Nat) : List Ev := (List.range c).map (fun i => evAt R ((f + i) % R.length))
theorem ring_length (R : List Ev) (f c : Nat) : (ring R f c).length = c := by simp [ring]
theorem ring_at (R : List Ev) (f c i : Nat) (h : i < c) : evAt (ring R f c) i = evAt R ((f + i) % R.length) := by
  unfold ring
  conv => lhs; unfold evAt
  simp [h]
  rfl
theorem evAt_set (R : List Ev) (k i : Nat) (e : Ev) (hk : k < R.length) : evAt (R.set k e) i = if i = k then e else evAt R i := by
  unfold evAt
  by_cases h : i = k
  · subst h; rw [List.getElem?_set_self hk]; simp
  · rw [List.getElem?_set_ne (Ne.symm h)]; simp [h]
theorem ring_push (R : List Ev) (f c : Nat) (e : Ev) (hf : f < R.length) (hc : c < R.length) : ring (R.set ((f + c) % R.length) e) f (c + 1) = ring R f c ++ [e] := by
  have hm : (f + c) % R.length < R.length := Nat.mod_lt _ (by omega)
  apply evs_ext
  · simp [ring_length]
  · intro i hi
    rw [ring_length] at hi
    rw [ring_at _ _ _ _ hi, List.length_set, evAt_set _ _ _ _ hm]
    by_cases h : i < c
    · rw [evAt_append_left (by rw [ring_length]; exact h), ring_at _ _ _ _ h, if_neg]
      rw [mod_two (by omega), mod_two (by omega)]
      split <;> split <;> omega
    · have : i = c := by omega
      subst this
      rw [if_pos rfl]
      unfold evAt
      rw [List.getElem?_append_right (by rw [ring_length]; omega), ring_length]
      simp
theorem ring_take (R : List Ev) (f c : Nat) (e : Ev) (hf : f < R.length) (hc : c + 1 ≤ R.length) : ring R f (c + 1) = evAt R f :: ring (R.set f e) ((f + 1) % R.length) c := by
  apply evs_ext
  · simp [ring_length]
  · intro i hi
    rw [ring_length] at hi
    rw [ring_at _ _ _ _ hi]
    cases i with
    | zero =>
      rw [Nat.add_zero, Nat.mod_eq_of_lt hf]
      rfl
    | succ i =>
      have : evAt (evAt R f :: ring (R.set f e) ((f + 1) % R.length) c) (i + 1) = evAt (ring (R.set f e) ((f + 1) % R.length) c) i := by unfold evAt; simp
      rw [this, ring_at _ _ _ _ (by omega), List.length_set, evAt_set _ _ _ _ hf]
      have e1 : ((f + 1) % R.length + i) % R.length = (f + (i + 1)) % R.length := by
        rw [Nat.mod_add_mod]; congr 1; omega
      rw [e1, if_neg]
      rw [mod_two (by omega)]
      split <;> omega
theorem take_more {L : List Ev} {k : Nat} (h : k < L.length) : L.take k ++ [evAt L k] = L.take (k + 1) := by
  rw [List.take_add_one, evAt_get h]; rfl
theorem ring_zero (R : List Ev) (f : Nat) : ring R f 0 = [] := rfl
theorem ring_lt {f c n : Nat} (hn : 0 < n) : (f + c) % n < n := Nat.mod_lt _ hn
end Go.Proofs.Ytbbmjfaflcbimaa
