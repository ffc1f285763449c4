/- A right shape's core, as placed cores want it; lists of points, held against one another. -/
import Derived.Test.YtocdompopadanaaGreatKPMa
import Derived.Test.YtocdompopadanaaGreatKShR
namespace Go.Proofs.YtocdompopadanaaGreat
open Go.RowKit Go.Shelf
set_option linter.unusedVariables false

/-- What the law asks of a list of directions. -/
structure TLD (k : Nat) (A : List Pt) : Prop where
  one : ∀ p ∈ A, p ≠ Pt.O ∧ p.short = p
  two : A.Pairwise fun p q => p ≠ q ∧ (k = 1 → p ≠ q.neg)
theorem gd_axes {s : Sh} (h : Good s) : TLD 0 (axesP s) := by
  unfold axesP
  by_cases k3 : s.kind = 3
  · rw [if_pos k3]; exact ⟨by decide, by decide⟩
  · rw [if_neg k3]
    by_cases k4 : s.kind = 4
    · rw [if_pos k4]
      have hf : formP s = true := by
        cases hf : formP s with
        | true => rfl
        | false => have := h.ok; unfold checkP at this; rw [hf] at this; simp at this
      obtain ⟨_, _, m3, m4⟩ := may_parts (form_hull hf k4)
      have t := sides_tidy m3 m4
      exact ⟨t.a0, t.a1.imp fun h => ⟨h, fun e => by omega⟩⟩
    · rw [if_neg k4]; exact ⟨by simp, List.Pairwise.nil⟩
theorem gd_edges {s : Sh} (h : Good s) : TLD 1 (edgesP s) := by
  unfold edgesP
  by_cases k2 : s.kind = 2
  · rw [if_pos k2]; exact ⟨by decide, by decide⟩
  rw [if_neg k2]
  by_cases k3 : s.kind = 3
  · rw [if_pos k3]; exact ⟨by decide, by decide⟩
  · rw [if_neg k3]
    by_cases k4 : s.kind = 4
    · rw [if_pos k4]
      have hf : formP s = true := by
        cases hf : formP s with
        | true => rfl
        | false => have := h.ok; unfold checkP at this; rw [hf] at this; simp at this
      obtain ⟨_, _, m3, m4⟩ := may_parts (form_hull hf k4)
      have t := sides_tidy m3 m4
      exact ⟨t.e0, t.e1.imp fun h => ⟨h.1, fun _ => h.2⟩⟩
    · rw [if_neg k4]; exact ⟨by simp, List.Pairwise.nil⟩
theorem gd_pts {s : Sh} (h : Good s) : 0 < (ptsP s).length := by
  unfold ptsP
  by_cases k1 : s.kind = 1
  · rw [if_pos k1]; decide
  rw [if_neg k1]
  by_cases k2 : s.kind = 2
  · rw [if_pos k2]; simp
  rw [if_neg k2]
  by_cases k3 : s.kind = 3
  · rw [if_pos k3]; simp [cornersP]
  · rw [if_neg k3]
    have k4 : s.kind = 4 := by have := h.k; omega
    have hf : formP s = true := by
      cases hf : formP s with
      | true => rfl
      | false => have := h.ok; unfold checkP at this; rw [hf] at this; simp at this
    obtain ⟨m1, _⟩ := may_parts (form_hull hf k4)
    omega
theorem gd_in {s : Sh} (h : Good s) : ∀ p ∈ ptsP s, p.inB 65536 = true := by
  have hx := h.hx
  have hy := h.hy
  have hz := h.hz
  unfold ptsP
  by_cases k1 : s.kind = 1
  · rw [if_pos k1]; decide
  rw [if_neg k1]
  by_cases k2 : s.kind = 2
  · rw [if_pos k2]
    intro p hp
    simp only [List.mem_cons, List.not_mem_nil, or_false] at hp
    rcases hp with rfl | rfl <;> (rw [Pt.inB_iff]; dsimp only; omega)
  rw [if_neg k2]
  by_cases k3 : s.kind = 3
  · rw [if_pos k3]
    intro p hp
    simp only [cornersP, List.mem_cons, List.not_mem_nil, or_false] at hp
    rcases hp with rfl | rfl | rfl | rfl | rfl | rfl | rfl | rfl <;> (rw [Pt.inB_iff]; dsimp only; omega)
  · rw [if_neg k3]
    have k4 : s.kind = 4 := by have := h.k; omega
    have hf : formP s = true := by
      cases hf : formP s with
      | true => rfl
      | false => have := h.ok; unfold checkP at this; rw [hf] at this; simp at this
    obtain ⟨_, _, m3, _⟩ := may_parts (form_hull hf k4)
    exact m3
theorem tri_len (L : List Pt) (a b c : Pt) (s : List Pt × List Pt) : (triP L a b c s).1.length ≤ s.1.length + 1 ∧ (triP L a b c s).2.length ≤ s.2.length + 3 := by
  have hE : ∀ (E : List Pt) (e : Pt), (withEdgeP E e).length ≤ E.length + 1 := fun E e => by unfold withEdgeP; split <;> simp
  unfold triP
  dsimp only
  split
  · omega
  · refine ⟨?_, ?_⟩
    · have hA : ∀ (A : List Pt) (e : Pt), (withAxisP A e).length ≤ A.length + 1 := fun A e => by unfold withAxisP; split <;> simp
      exact hA _ _
    · unfold withEdgesP
      simp only [List.foldl_cons, List.foldl_nil]
      have h1 := hE s.2 (b.sub a)
      have h2 := hE (withEdgeP s.2 (b.sub a)) (c.sub a)
      have h3 := hE (withEdgeP (withEdgeP s.2 (b.sub a)) (c.sub a)) (c.sub b)
      omega
theorem inner_len (L : List Pt) (a b : Pt) : ∀ (M : List Pt) (s : List Pt × List Pt), (innerP L a b M s).1.length ≤ s.1.length + M.length ∧ (innerP L a b M s).2.length ≤ s.2.length + 3 * M.length
  | [], s => by simp [innerP]
  | c :: r, s => by
    have h1 := inner_len L a b r (triP L a b c s)
    have h2 := tri_len L a b c s
    simp only [innerP, List.length_cons]
    omega
theorem mid_len (L : List Pt) (a : Pt) : ∀ (M : List Pt) (s : List Pt × List Pt), (midP L a M s).1.length ≤ s.1.length + M.length * M.length ∧ (midP L a M s).2.length ≤ s.2.length + 3 * (M.length * M.length)
  | [], s => by simp [midP]
  | c :: r, s => by
    have h1 := mid_len L a r (innerP L a c r s)
    have h2 := inner_len L a c r s
    simp only [midP, List.length_cons]
    have e : (r.length + 1) * (r.length + 1) = r.length * r.length + (r.length + r.length + 1) := by simp only [Nat.add_mul, Nat.mul_add, Nat.one_mul, Nat.mul_one]; omega
    rw [e]
    generalize r.length * r.length = q at *
    omega
theorem outer_len (L : List Pt) : ∀ (M : List Pt) (s : List Pt × List Pt), M.length ≤ 12 → (outerP L M s).1.length ≤ s.1.length + 144 * M.length ∧ (outerP L M s).2.length ≤ s.2.length + 432 * M.length
  | [], s, _ => by simp [outerP]
  | a :: r, s, h => by
    simp only [List.length_cons] at h
    have h1 := outer_len L r (midP L a r s) (by omega)
    have h2 := mid_len L a r s
    have h3 : r.length * r.length ≤ 12 * 12 := Nat.mul_le_mul (by omega) (by omega)
    simp only [outerP, List.length_cons]
    generalize r.length * r.length = q at *
    omega
theorem gd_alen {s : Sh} (h : Good s) : (axesP s).length < 1099511627776 ∧ (edgesP s).length < 1099511627776 := by
  have hs : s.kind = 4 → (sidesP s.pts).1.length ≤ 1728 ∧ (sidesP s.pts).2.length ≤ 5184 := fun k4 => by
    have hf : formP s = true := by
      cases hf : formP s with
      | true => rfl
      | false => have := h.ok; unfold checkP at this; rw [hf] at this; simp at this
    obtain ⟨_, m2, _⟩ := may_parts (form_hull hf k4)
    have h9 := outer_len s.pts s.pts ([], []) (by omega)
    unfold sidesP
    simp only [List.length_nil, Nat.zero_add] at h9
    omega
  unfold axesP edgesP
  constructor
  · split
    · decide
    · split
      · have := hs (by assumption); omega
      · decide
  · split
    · decide
    · split
      · decide
      · split
        · have := hs (by assumption); omega
        · decide
theorem gd_len {s : Sh} (h : Good s) : (ptsP s).length ≤ 12 := by
  unfold ptsP
  by_cases k1 : s.kind = 1
  · rw [if_pos k1]; decide
  rw [if_neg k1]
  by_cases k2 : s.kind = 2
  · rw [if_pos k2]; simp
  rw [if_neg k2]
  by_cases k3 : s.kind = 3
  · rw [if_pos k3]; simp [cornersP]
  · rw [if_neg k3]
    have k4 : s.kind = 4 := by have := h.k; omega
    have hf : formP s = true := by
      cases hf : formP s with
      | true => rfl
      | false => have := h.ok; unfold checkP at this; rw [hf] at this; simp at this
    obtain ⟨_, m2, _⟩ := may_parts (form_hull hf k4)
    omega
set_option maxHeartbeats 2000000 in
set_option maxRecDepth 100000 in
theorem points_is (v u : Value) (L M : List Pt) (w : World) (hv : Lies w v L) (hu : Lies w u M) :
    Calls Tryz.prog 13 #[v, u] w fun e W => e = .returned (.bool (decide (L = M))) ∧ Below w.heap.size w W := by
  obtain ⟨o, c, rfl, hlc, hcm, hcell⟩ := hv.form
  obtain ⟨o', c', rfl, hlc', hcm', hcell'⟩ := hu.form
  have HC : Hid _ := hcell
  have HC' : Hid _ := hcell'
  clear hv hu hcell hcell'
  by_cases hl : L.length = M.length
  · rw [← hl] at hlc' ⊢
    have HLL : Hid (L.length = M.length) := hl
    clear hl
    obtain ⟨D, hD⟩ : ∃ D, decide (L = M) = D := ⟨_, rfl⟩
    rw [hD]
    have HD : Hid _ := hD
    clear hD
    go_enter Tryz.func13, Tryz.ntmps13
    go_wp2_with (fail)
    go_loopg [5] L.length (fun gm i wr => ∃ k : Nat, i = .int .i64 (k : Int) ∧ k ≤ L.length ∧ gm = L.length - k ∧ Hid (∀ j, j < k → pt L j = pt M j) ∧ Hid (Below w.heap.size w wr))
    case atStart => exact ⟨0, rfl, Nat.zero_le _, rfl, fun j hj => absurd hj (by omega), Below.refl _ w⟩
    case round =>
      obtain ⟨k, rfl, hk, hgm, HN, HB⟩ := hrel
      have HG : Hid _ := hgm
      clear hgm
      by_cases hlt : k < L.length
      · obtain ⟨g, off, rfl, x0, x1, x2⟩ := HC.out k hlt
        obtain ⟨g', off', rfl, y0, y1, y2⟩ := HC'.out k (by rw [← HLL.out]; exact hlt)
        have x0 := c_after HB.out x0
        have x1 := c_after HB.out x1
        have x2 := c_after HB.out x2
        have y0 := c_after HB.out y0
        have y1 := c_after HB.out y1
        have y2 := c_after HB.out y2
        have HNE : Hid (pt L k ≠ pt M k → D = false) := fun hne => by rw [← HD.out]; exact decide_eq_false (fun e => hne (by rw [e]))
        have HEQ : Hid (pt L k = pt M k → ∀ j, j < k + 1 → pt L j = pt M j) := fun e j hj => by
          by_cases ej : j = k
          · subst ej; exact e
          · exact HN.out j (by omega)
        rw [pt_eq] at HEQ
        rw [Ne, pt_eq] at HNE
        generalize (pt L k).x = lx at *
        generalize (pt L k).y = ly at *
        generalize (pt L k).z = lz at *
        generalize (pt M k).x = mx at *
        generalize (pt M k).y = my at *
        generalize (pt M k).z = mz at *
        by_cases ex : lx = mx
        · subst ex
          by_cases ey : ly = my
          · subst ey
            by_cases ez : lz = mz
            · subst ez
              have HE2 : Hid (∀ j, j < k + 1 → pt L j = pt M j) := HEQ.out ⟨rfl, rfl, rfl⟩
              clear HNE HEQ
              go_wp2_with (fail)
              go_region
              go_wp2_with (fail)
              go_roundg (L.length - (k + 1))
              case measure => have := HG.out; omega
              case rel => exact ⟨k + 1, by go_num, by omega, rfl, HE2, HB.out.drew⟩
            · have e : D = false := HNE.out (fun h => ez h.2.2)
              subst e
              have e1 : (lz == mz) = false := beq_eq_false_iff_ne.2 ez
              clear HNE HEQ
              go_wp2_with (fail)
              go_region
              go_wp2_with (fail)
              go_ret
              exact ⟨rfl, HB.out.drew⟩
          · have e : D = false := HNE.out (fun h => ey h.2.1)
            subst e
            have e1 : (ly == my) = false := beq_eq_false_iff_ne.2 ey
            clear HNE HEQ
            go_wp2_with (fail)
            go_region
            go_wp2_with (fail)
            go_ret
            exact ⟨rfl, HB.out.drew⟩
        · have e : D = false := HNE.out (fun h => ex h.1)
          subst e
          have e1 : (lx == mx) = false := beq_eq_false_iff_ne.2 ex
          clear HNE HEQ
          go_wp2_with (fail)
          go_region
          go_wp2_with (fail)
          go_ret
          exact ⟨rfl, HB.out.drew⟩
      · have e : D = true := by rw [← HD.out]; exact decide_eq_true (list_same HLL.out (fun i hi => HN.out i (by omega)))
        subst e
        go_wp2_with (fail)
        go_ret
        exact ⟨rfl, HB.out⟩
  · have hd : decide (L = M) = false := decide_eq_false (fun e => hl (by rw [e]))
    rw [hd]
    have hl' : ¬ (L.length : Int) = (M.length : Int) := by omega
    clear hd
    go_enter Tryz.func13, Tryz.ntmps13
    go_wp2_with (fail)
    go_ret
    exact ⟨rfl, Below.refl _ w⟩
theorem points_same6 (v u : Value) (L : List Pt) (w : World) (hv : Lies w v L) (hu : Lies w u L) :
    Calls Tryz.prog 13 #[v, u] w fun e W => e = .returned (.bool true) ∧ Below w.heap.size w W := by
  have h := points_is v u L L w hv hu
  rw [decide_eq_true rfl] at h
  exact h
end Go.Proofs.YtocdompopadanaaGreat
