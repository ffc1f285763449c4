/- Masses of all shapes that may be; what does not hang on the order of a hull's points. -/
import Derived.Test.YtiicpdlaaklahaaShR
namespace Go.Proofs.Ytiicpdlaaklahaa
open Go.RowKit Go.Shelf
set_option linter.unusedVariables false

theorem fold_min (f : Pt → Int) (op : Pt → Pt → Pt) (hop : ∀ a p, f (op a p) = minI (f a) (f p)) : ∀ (l : List Pt) (a : Pt), (f (l.foldl op a) = f a ∨ ∃ p ∈ l, f (l.foldl op a) = f p) ∧ f (l.foldl op a) ≤ f a ∧ ∀ p ∈ l, f (l.foldl op a) ≤ f p
  | [], a => ⟨Or.inl rfl, Int.le_refl _, fun p hp => by cases hp⟩
  | q :: r, a => by
    obtain ⟨h1, h2, h3⟩ := fold_min f op hop r (op a q)
    have ho := hop a q
    rw [List.foldl_cons]
    have hle : f (op a q) ≤ f a ∧ f (op a q) ≤ f q ∧ (f (op a q) = f a ∨ f (op a q) = f q) := by
      rw [ho]; unfold minI
      split <;> omega
    refine ⟨?_, by omega, fun p hp => ?_⟩
    · rcases h1 with h1 | ⟨p, hp, h1⟩
      · rcases hle.2.2 with e | e
        · exact Or.inl (h1.trans e)
        · exact Or.inr ⟨q, by simp, h1.trans e⟩
      · exact Or.inr ⟨p, by simp [hp], h1⟩
    · rw [List.mem_cons] at hp
      rcases hp with rfl | hp
      · omega
      · exact h3 p hp
theorem fold_of (f : Pt → Int) (op : Pt → Pt → Pt) (hop : ∀ a p, f (op a p) = minI (f a) (f p)) (P : List Pt) (h0 : 0 < P.length) : (∃ p ∈ P, f ((P.take P.length).foldl op (pt P 0)) = f p) ∧ ∀ p ∈ P, f ((P.take P.length).foldl op (pt P 0)) ≤ f p := by
  rw [List.take_length]
  obtain ⟨h1, _, h3⟩ := fold_min f op hop P (pt P 0)
  refine ⟨?_, h3⟩
  rcases h1 with h | ⟨p, hp, h⟩
  · exact ⟨_, pt_mem h0, h⟩
  · exact ⟨p, hp, h⟩
theorem fold_same (f : Pt → Int) (op : Pt → Pt → Pt) (hop : ∀ a p, f (op a p) = minI (f a) (f p)) {P Q : List Pt} (h0 : 0 < P.length) (h : List.Perm P Q) : f ((P.take P.length).foldl op (pt P 0)) = f ((Q.take Q.length).foldl op (pt Q 0)) := by
  obtain ⟨⟨p, hp, e1⟩, l1⟩ := fold_of f op hop P h0
  obtain ⟨⟨q, hq, e2⟩, l2⟩ := fold_of f op hop Q (by rw [← h.length_eq]; exact h0)
  have a := l1 q (h.mem_iff.2 hq)
  have b := l2 p (h.mem_iff.1 hp)
  omega
theorem neg_maxI (a b : Int) : -maxI a b = minI (-a) (-b) := by unfold maxI minI; split <;> split <;> omega
theorem widths_perm {P Q : List Pt} (h0 : 0 < P.length) (h : List.Perm P Q) (r : Int) : widths P r = widths Q r := by
  have lx := fold_same (fun p => p.x) minP (fun a p => rfl) h0 h
  have ly := fold_same (fun p => p.y) minP (fun a p => rfl) h0 h
  have lz := fold_same (fun p => p.z) minP (fun a p => rfl) h0 h
  have mx := fold_same (fun p => -p.x) maxP (fun a p => neg_maxI a.x p.x) h0 h
  have my := fold_same (fun p => -p.y) maxP (fun a p => neg_maxI a.y p.y) h0 h
  have mz := fold_same (fun p => -p.z) maxP (fun a p => neg_maxI a.z p.z) h0 h
  unfold widths lowOf highOf
  rw [lx, ly, lz, show (List.foldl maxP (pt P 0) (List.take P.length P)).x = (List.foldl maxP (pt Q 0) (List.take Q.length Q)).x by omega, show (List.foldl maxP (pt P 0) (List.take P.length P)).y = (List.foldl maxP (pt Q 0) (List.take Q.length Q)).y by omega, show (List.foldl maxP (pt P 0) (List.take P.length P)).z = (List.foldl maxP (pt Q 0) (List.take Q.length Q)).z by omega]
theorem may_perm {P Q : List Pt} (h : List.Perm P Q) (hm : mayP P = true) : mayP Q = true := by
  obtain ⟨m1, m2, m3, m4⟩ := may_parts hm
  unfold mayP
  simp only [Bool.and_eq_true, decide_eq_true_eq, List.all_eq_true]
  rw [← h.length_eq]
  exact ⟨⟨m1, m2⟩, fun p hp => m3 p (h.mem_iff.2 hp), h.nodup_iff.1 m4⟩
theorem first_two {P : List Pt} (hm : mayP P = true) : pt P 0 ≠ pt P 1 := fun e => by
  obtain ⟨m1, m2, m3, m4⟩ := may_parts hm
  rw [pt_getElem (by omega : 0 < P.length), pt_getElem (by omega : 1 < P.length)] at e
  exact (List.pairwise_iff_getElem.1 m4 0 1 (by omega) (by omega) (by omega)) e
theorem flat_perm {P Q : List Pt} (h : List.Perm P Q) (hm : mayP P = true) : flatP P = true ↔ flatP Q = true := by
  have m1 := (may_parts hm).1
  rw [flatP_iff (by omega) (first_two hm), flatP_iff (by rw [← h.length_eq]; omega) (first_two (may_perm h hm))]
  exact flatAll_perm fun p => h.mem_iff
theorem hull_parts {r : Int} {hf : Pt} {P : List Pt} (h : checkP ⟨4, r, hf, P⟩ = 0) : (0 ≤ r ∧ r ≤ 16384) ∧ mayP P = true ∧ ¬ flatP P = true := by
  unfold checkP formP at h
  simp only [show ¬ (4 : Int) = 1 from by decide, show ¬ (4 : Int) = 2 from by decide, show ¬ (4 : Int) = 3 from by decide, if_false, if_true, true_and] at h
  split at h
  · rename_i hf2
    rw [Bool.and_eq_true] at hf2
    refine ⟨of_decide_eq_true hf2.1, hf2.2, fun e => ?_⟩
    rw [if_pos e] at h
    omega
  · omega
theorem hull_of {r : Int} {hf : Pt} {P : List Pt} (hr : 0 ≤ r ∧ r ≤ 16384) (hm : mayP P = true) (hn : ¬ flatP P = true) : checkP ⟨4, r, hf, P⟩ = 0 := by
  unfold checkP formP
  simp only [show ¬ (4 : Int) = 1 from by decide, show ¬ (4 : Int) = 2 from by decide, show ¬ (4 : Int) = 3 from by decide, if_false, if_true, true_and]
  have e : inR r 0 16384 = true := decide_eq_true hr
  rw [e, hm, if_neg hn]
  rfl
theorem check_perm {r : Int} {hf : Pt} {P Q : List Pt} (hp : List.Perm P Q) (h : checkP ⟨4, r, hf, P⟩ = 0) : checkP ⟨4, r, hf, Q⟩ = 0 := by
  obtain ⟨h1, h2, h3⟩ := hull_parts h
  exact hull_of h1 (may_perm hp h2) (fun e => h3 ((flat_perm hp h2).2 e))
theorem not_flat {r : Int} {hf : Pt} {P : List Pt} (h : checkP ⟨4, r, hf, P⟩ = 0) : ¬ flatAll P := by
  obtain ⟨h1, h2, h3⟩ := hull_parts h
  exact fun e => h3 ((flatP_iff (by have := (may_parts h2).1; omega) (first_two h2)).2 e)
/-- A shape that may be has a radius and points within bounds. -/
theorem ok_parts {s : Sh} (h : checkP s = 0) : (1 ≤ s.kind ∧ s.kind ≤ 4) ∧ (0 ≤ s.radius ∧ s.radius ≤ 16384) ∧ 0 < (ptsP s).length ∧ (ptsP s).length ≤ 100 ∧ ∀ p ∈ ptsP s, p.inB 65536 = true := by
  have hf : formP s = true := by
    cases hf : formP s with
    | true => rfl
    | false => unfold checkP at h; rw [hf] at h; simp at h
  obtain ⟨k, r, ⟨x, y, z⟩, L⟩ := s
  unfold formP at hf
  unfold ptsP
  dsimp only at hf ⊢
  by_cases k1 : k = 1
  · subst k1
    rw [if_pos rfl] at hf
    have := of_decide_eq_true hf
    rw [if_pos rfl]
    exact ⟨by omega, by omega, by simp, by simp, fun p hp => by simp at hp; subst hp; decide⟩
  rw [if_neg k1] at hf ⊢
  by_cases k2 : k = 2
  · subst k2
    rw [if_pos rfl, Bool.and_eq_true] at hf
    have a := of_decide_eq_true hf.1
    have b := of_decide_eq_true hf.2
    rw [if_pos rfl]
    refine ⟨by omega, by omega, by simp, by simp, fun p hp => ?_⟩
    simp only [List.mem_cons, List.not_mem_nil, or_false] at hp
    rw [Pt.inB_iff]
    rcases hp with rfl | rfl <;> (dsimp only; omega)
  rw [if_neg k2] at hf ⊢
  by_cases k3 : k = 3
  · subst k3
    rw [if_pos rfl, Bool.and_eq_true, Bool.and_eq_true, Bool.and_eq_true] at hf
    have a := of_decide_eq_true hf.1
    have b := of_decide_eq_true hf.2.1
    have c := of_decide_eq_true hf.2.2.1
    have d := of_decide_eq_true hf.2.2.2
    rw [if_pos rfl]
    refine ⟨by omega, by omega, by simp [cornersP], by simp [cornersP], fun p hp => ?_⟩
    simp only [cornersP, List.mem_cons, List.not_mem_nil, or_false] at hp
    rw [Pt.inB_iff]
    rcases hp with rfl | rfl | rfl | rfl | rfl | rfl | rfl | rfl <;> (dsimp only; omega)
  rw [if_neg k3] at hf ⊢
  by_cases k4 : k = 4
  · subst k4
    rw [if_pos rfl, Bool.and_eq_true] at hf
    have a := of_decide_eq_true hf.1
    obtain ⟨m1, m2, m3, m4⟩ := may_parts hf.2
    exact ⟨by omega, by omega, by omega, by omega, m3⟩
  · rw [if_neg k4] at hf; cases hf
set_option maxHeartbeats 1000000 in
theorem mass_ok (s : Sh) (pv : Value) (m : Int) (w0 : World) (hs : checkP s = 0) (hv : Lies w0 pv s.pts) (hm0 : 16777216 ≤ m) (hm1 : m ≤ 1099511627776) :
    Calls Try.prog 13 #[s.v pv, .int .i64 m] w0 fun e W => e = .returned (.tuple #[.agg #[.int .i64 m, .int .i64 (maxI (iner s m).x 4096), .int .i64 (maxI (iner s m).y 4096), .int .i64 (maxI (iner s m).z 4096)], .int .i64 0]) ∧ Below w0.heap.size w0 W := by
  obtain ⟨_, hr, p1, p2, p3⟩ := ok_parts hs
  refine mass_of s pv m _ _ _ w0 hv hs hm0 hm1 ?_
  intro W b vp va ve hp h2 h3 hc hf
  by_cases hk : s.kind = 1
  · have e : iner s m = ⟨ballI m (s.radius * 1048576), ballI m (s.radius * 1048576), ballI m (s.radius * 1048576)⟩ := by unfold iner; rw [if_pos hk]
    rw [e, hk]
    exact inertia_ball b vp va ve s.radius m W hc hf (by omega) hr.2 (by omega) hm1 (by obtain ⟨o, c, e, _⟩ := hp.form; exact ⟨o, _, c, e⟩) h2 h3
  · have e : iner s m = ⟨boxI m (widths (ptsP s) s.radius).y (widths (ptsP s) s.radius).z, boxI m (widths (ptsP s) s.radius).z (widths (ptsP s) s.radius).x, boxI m (widths (ptsP s) s.radius).x (widths (ptsP s) s.radius).y⟩ := by unfold iner; rw [if_neg hk]
    rw [e]
    exact inertia_box b s.kind vp va ve (ptsP s) s.radius m W hk hp p1 p2 p3 ⟨hc, hf⟩ (by omega) hr.2 (by omega) hm1 h2 h3
theorem iner_perm {r : Int} {hf : Pt} {P Q : List Pt} (hp : List.Perm P Q) (h0 : 0 < P.length) (m : Int) : iner ⟨4, r, hf, P⟩ m = iner ⟨4, r, hf, Q⟩ m := by
  unfold iner ptsP
  simp only [show ¬ (4 : Int) = 1 from by decide, show ¬ (4 : Int) = 2 from by decide, show ¬ (4 : Int) = 3 from by decide, if_false]
  rw [widths_perm h0 hp]
theorem fl3_drop : ∀ (L : List Pt) (k : Nat), fl3 (L.drop k) = (fl3 L).drop (k * 3)
  | L, 0 => by simp
  | [], k + 1 => by simp [fl3]
  | p :: r, k + 1 => by rw [show (k + 1) * 3 = k * 3 + 3 by omega]; simp only [List.drop_succ_cons, fl3]; exact fl3_drop r k
theorem fl3_take : ∀ (L : List Pt) (k : Nat), fl3 (L.take k) = (fl3 L).take (k * 3)
  | L, 0 => by simp [fl3]
  | [], k + 1 => by simp [fl3]
  | p :: r, k + 1 => by rw [show (k + 1) * 3 = k * 3 + 3 by omega]; simp only [List.take_succ_cons, fl3]; rw [fl3_take r k]
/-- A part of a list, as append reads it. -/
theorem Lies.read {w : World} {g off n c : Nat} {L : List Pt} (h : Lies w (.slice (some ⟨g, off, none⟩) n c) L) : ∀ (k : Nat) (M : List Pt), (∃ R, L.drop k = M ++ R) → ∀ j u, (fl3 M)[j]? = some u → w.cell? ((⟨g, off + k * 3, none⟩ : Addr).add j) = some u := by
  intro k M ⟨R, hR⟩ j u hj
  obtain ⟨o, cap, e, _, _, hc⟩ := h.cells
  simp only [Value.slice.injEq] at e
  obtain ⟨rfl, rfl, rfl⟩ := e
  have ad : (⟨g, off + k * 3, none⟩ : Addr).add j = ⟨g, off + k * 3 + j, none⟩ := by unfold Addr.add; split <;> simp_all
  rw [ad]
  have hL : (fl3 L)[k * 3 + j]? = some u := by
    rw [← List.getElem?_drop, ← fl3_drop, hR, fl3_append, List.getElem?_append_left (List.getElem?_eq_some_iff.1 hj).1]
    exact hj
  rcases hc with rfl | ⟨g', off', e', hc⟩
  · simp [fl3] at hL
  · cases e'
    rw [Nat.add_assoc]
    exact hc _ _ hL
theorem own_at {w : World} {base : Nat} {t : TypeId} {sz n : Nat} {v : Value} {xs : List Value} (h : w.ownsRow base t sz v n xs) (h0 : 0 < n) : ∃ g c, v = .slice (some ⟨g, 0, none⟩) n c ∧ n ≤ c := by
  rcases h.2 with ⟨rfl, h1⟩ | ⟨g, cap, cur, rfl, _, _, h1, _⟩
  · omega
  · exact ⟨g, cap, rfl, h1⟩
end Go.Proofs.Ytiicpdlaaklahaa
