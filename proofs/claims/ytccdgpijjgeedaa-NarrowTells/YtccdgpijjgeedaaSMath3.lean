/- What a hull's sides are like: plain numbers. -/
import Derived.Test.YtccdgpijjgeedaaSMath2
namespace Go.Proofs.Ytccdgpijjgeedaa
set_option linter.unusedVariables false

theorem neg_neg' (p : Pt) : p.neg.neg = p := by cases p; simp [Pt.neg]
theorem neg_ne {p : Pt} (h : p ≠ Pt.O) : p.neg ≠ Pt.O := fun e => h (by rw [← neg_neg' p, e]; decide)
theorem self_neg {p : Pt} (h : p.neg = p) : p = Pt.O := by
  cases p
  simp only [Pt.neg, Pt.O, Pt.mk.injEq] at *
  omega
/-- Directions as a core has them. -/
structure TidyD (A E : List Pt) : Prop where
  a0 : ∀ p ∈ A, p ≠ Pt.O ∧ p.short = p
  a1 : A.Nodup
  e0 : ∀ p ∈ E, p ≠ Pt.O ∧ p.short = p
  e1 : E.Pairwise fun p q => p ≠ q ∧ p ≠ q.neg
theorem tidy_nil : TidyD [] [] := ⟨by simp, List.nodup_nil, by simp, List.Pairwise.nil⟩
theorem tidy_axis {A E : List Pt} (h : TidyD A E) {n : Pt} (hb : n.inB 4398046511104 = true) (hn : n ≠ Pt.O) : TidyD (withAxisP A n.short) E := by
  unfold withAxisP
  split
  · exact h
  · rename_i hno
    refine ⟨fun p hp => ?_, ?_, h.e0, h.e1⟩
    · rw [List.mem_append, List.mem_singleton] at hp
      rcases hp with hp | rfl
      · exact h.a0 p hp
      · exact ⟨short_ne hb hn, short_again n⟩
    · rw [List.nodup_append]
      refine ⟨h.a1, by simp, fun a ha b hb => ?_⟩
      rw [List.mem_singleton] at hb
      subst hb
      exact fun e => hno (e ▸ ha)
theorem tidy_edge {A E : List Pt} (h : TidyD A E) {e : Pt} (hb : e.inB 4398046511104 = true) (hn : e ≠ Pt.O) : TidyD A (withEdgeP E e) := by
  unfold withEdgeP
  split
  · exact h
  · rename_i hno
    refine ⟨h.a0, h.a1, fun p hp => ?_, ?_⟩
    · rw [List.mem_append, List.mem_singleton] at hp
      rcases hp with hp | rfl
      · exact h.e0 p hp
      · exact ⟨short_ne hb hn, short_again e⟩
    · rw [List.pairwise_append]
      refine ⟨h.e1, List.pairwise_singleton _ _, fun a ha b hb => ?_⟩
      rw [List.mem_singleton] at hb
      subst hb
      exact ⟨fun e => hno (Or.inl (e ▸ ha)), fun e => hno (Or.inr (e ▸ ha))⟩
theorem mul_in {a b A B : Int} (ha : -A ≤ a ∧ a ≤ A) (hb : -B ≤ b ∧ b ≤ B) : -(A * B) ≤ a * b ∧ a * b ≤ A * B := by
  have h1 := Int.mul_nonneg (show 0 ≤ A - a by omega) (show 0 ≤ B - b by omega)
  have h2 := Int.mul_nonneg (show 0 ≤ A + a by omega) (show 0 ≤ B + b by omega)
  have h3 := Int.mul_nonneg (show 0 ≤ A - a by omega) (show 0 ≤ B + b by omega)
  have h4 := Int.mul_nonneg (show 0 ≤ A + a by omega) (show 0 ≤ B - b by omega)
  simp only [Int.mul_add, Int.add_mul, Int.mul_sub, Int.sub_mul] at h1 h2 h3 h4
  omega
theorem cross_in {p q : Pt} (hp : p.inB 131072 = true) (hq : q.inB 131072 = true) : (p.cross q).inB 34359738368 = true := by
  rw [Pt.inB_iff] at *
  unfold Pt.cross
  dsimp only
  obtain ⟨a1, a2, a3⟩ := hp
  obtain ⟨b1, b2, b3⟩ := hq
  have h1 := mul_in a2 b3
  have h2 := mul_in a3 b2
  have h3 := mul_in a3 b1
  have h4 := mul_in a1 b3
  have h5 := mul_in a1 b2
  have h6 := mul_in a2 b1
  omega
theorem sub_in {p q : Pt} {m : Int} (hp : p.inB m = true) (hq : q.inB m = true) : (p.sub q).inB (2 * m) = true := by
  rw [Pt.inB_iff] at *
  unfold Pt.sub
  dsimp only
  omega
theorem dot_in {p q : Pt} (hp : p.inB 34359738368 = true) (hq : q.inB 131072 = true) : -13510798882111488 ≤ p.dot q ∧ p.dot q ≤ 13510798882111488 := by
  rw [Pt.inB_iff] at *
  unfold Pt.dot
  obtain ⟨a1, a2, a3⟩ := hp
  obtain ⟨b1, b2, b3⟩ := hq
  have h1 := mul_in a1 b1
  have h2 := mul_in a2 b2
  have h3 := mul_in a3 b3
  omega
theorem sub_ne {p q : Pt} (h : q ≠ p) : q.sub p ≠ Pt.O := sub_O fun e => h e.symm
theorem tri_tidy {L : List Pt} {a b c : Pt} {s : List Pt × List Pt} (h : TidyD s.1 s.2) (ha : a.inB 65536 = true) (hb : b.inB 65536 = true) (hc : c.inB 65536 = true) (h1 : b ≠ a) (h2 : c ≠ a) (h3 : c ≠ b) :
    TidyD (triP L a b c s).1 (triP L a b c s).2 := by
  unfold triP
  dsimp only
  split
  · exact h
  · rename_i hno
    have hn : (b.sub a).cross (c.sub a) ≠ Pt.O := fun e => hno (Or.inl e)
    have hin := inB_mono (cross_in (sub_in hb ha) (sub_in hc ha)) (n := 4398046511104) (by decide)
    have big : ∀ {p q : Pt}, p.inB 65536 = true → q.inB 65536 = true → (p.sub q).inB 4398046511104 = true := fun hp hq => inB_mono (sub_in hp hq) (by decide)
    refine tidy_edge (tidy_edge (tidy_edge (tidy_axis h ?_ ?_) (big hb ha) (sub_ne h1)) (big hc ha) (sub_ne h2)) (big hc hb) (sub_ne h3)
    · split
      · rw [neg_in]; exact hin
      · exact hin
    · split
      · exact neg_ne hn
      · exact hn
theorem inner_tidy {L : List Pt} {a b : Pt} (ha : a.inB 65536 = true) (hb : b.inB 65536 = true) (hab : b ≠ a) : ∀ (M : List Pt) (s : List Pt × List Pt), (∀ c ∈ M, c.inB 65536 = true ∧ c ≠ a ∧ c ≠ b) → TidyD s.1 s.2 → TidyD (innerP L a b M s).1 (innerP L a b M s).2
  | [], s, _, h => h
  | c :: r, s, hM, h => by
    obtain ⟨k1, k2, k3⟩ := hM c (by simp)
    exact inner_tidy ha hb hab r _ (fun d hd => hM d (by simp [hd])) (tri_tidy h ha hb k1 hab k2 k3)
theorem mid_tidy {L : List Pt} {a : Pt} (ha : a.inB 65536 = true) : ∀ (M : List Pt) (s : List Pt × List Pt), (∀ b ∈ M, b.inB 65536 = true ∧ b ≠ a) → M.Nodup → TidyD s.1 s.2 → TidyD (midP L a M s).1 (midP L a M s).2
  | [], s, _, _, h => h
  | b :: r, s, hM, hd, h => by
    obtain ⟨k1, k2⟩ := hM b (by simp)
    rw [List.nodup_cons] at hd
    exact mid_tidy ha r _ (fun d hd => hM d (by simp [hd])) hd.2 (inner_tidy ha k1 k2 r _ (fun c hc => ⟨(hM c (by simp [hc])).1, (hM c (by simp [hc])).2, fun e => hd.1 (e ▸ hc)⟩) h)
theorem outer_tidy {L : List Pt} : ∀ (M : List Pt) (s : List Pt × List Pt), (∀ b ∈ M, b.inB 65536 = true) → M.Nodup → TidyD s.1 s.2 → TidyD (outerP L M s).1 (outerP L M s).2
  | [], s, _, _, h => h
  | a :: r, s, hM, hd, h => by
    have k1 := hM a (by simp)
    rw [List.nodup_cons] at hd
    exact outer_tidy r _ (fun d hd => hM d (by simp [hd])) hd.2 (mid_tidy k1 r _ (fun b hb => ⟨hM b (by simp [hb]), fun e => hd.1 (e ▸ hb)⟩) hd.2 h)
theorem sides_tidy {L : List Pt} (hL : ∀ b ∈ L, b.inB 65536 = true) (hd : L.Nodup) : TidyD (sidesP L).1 (sidesP L).2 := outer_tidy L _ hL hd tidy_nil
end Go.Proofs.Ytccdgpijjgeedaa
