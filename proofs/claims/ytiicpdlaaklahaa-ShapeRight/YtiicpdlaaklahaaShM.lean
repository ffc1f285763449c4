/- Chapter 5's examples: layer 5's first calls. -/
import Derived.Test.YtiicpdlaaklahaaShL
namespace Go.Proofs.Ytiicpdlaaklahaa
open Go.RowKit Go.Shelf Fx
set_option linter.unusedVariables false

set_option maxHeartbeats 2000000 in
set_option maxRecDepth 100000 in
theorem points_any (v u : Value) (L M : List Pt) (w : World) (hv : Lies w v L) (hu : Lies w u M) :
    Calls Try.prog 16 #[v, u] w fun e W => e = .returned (.bool (decide (L = M))) ∧ Below w.heap.size w W := by
  obtain ⟨o, c, rfl, hlc, hcm, hcell⟩ := hv.form
  obtain ⟨o', c', rfl, hlc', hcm', hcell'⟩ := hu.form
  have HC : Hid _ := hcell
  have HC' : Hid _ := hcell'
  clear hv hu hcell hcell'
  by_cases hl : L.length = M.length
  · rw [← hl] at hlc' ⊢
    have HLL : Hid (L.length = M.length) := hl
    clear hl
    obtain ⟨D, hD⟩ : ∃ D, decide (L = M) = D := ⟨_, rfl⟩
    rw [hD]
    have HD : Hid _ := hD
    clear hD
    go_enter Try.func16, Try.ntmps16
    go_wp2_with (fail)
    go_loopg [5] L.length (fun gm i wr => ∃ k : Nat, i = .int .i64 (k : Int) ∧ k ≤ L.length ∧ gm = L.length - k ∧ Hid (∀ j, j < k → pt L j = pt M j) ∧ Hid (Below w.heap.size w wr))
    case atStart => exact ⟨0, rfl, Nat.zero_le _, rfl, fun j hj => absurd hj (by omega), Below.refl _ w⟩
    case round =>
      obtain ⟨k, rfl, hk, hgm, HN, HB⟩ := hrel
      have HG : Hid _ := hgm
      clear hgm
      by_cases hlt : k < L.length
      · obtain ⟨g, off, rfl, x0, x1, x2⟩ := HC.out k hlt
        obtain ⟨g', off', rfl, y0, y1, y2⟩ := HC'.out k (by rw [← HLL.out]; exact hlt)
        have x0 := c_after HB.out x0
        have x1 := c_after HB.out x1
        have x2 := c_after HB.out x2
        have y0 := c_after HB.out y0
        have y1 := c_after HB.out y1
        have y2 := c_after HB.out y2
        have HNE : Hid (pt L k ≠ pt M k → D = false) := fun hne => by rw [← HD.out]; exact decide_eq_false (fun e => hne (by rw [e]))
        have HEQ : Hid (pt L k = pt M k → ∀ j, j < k + 1 → pt L j = pt M j) := fun e j hj => by
          by_cases ej : j = k
          · subst ej; exact e
          · exact HN.out j (by omega)
        rw [pt_eq] at HEQ
        rw [Ne, pt_eq] at HNE
        generalize (pt L k).x = lx at *
        generalize (pt L k).y = ly at *
        generalize (pt L k).z = lz at *
        generalize (pt M k).x = mx at *
        generalize (pt M k).y = my at *
        generalize (pt M k).z = mz at *
        by_cases ex : lx = mx
        · subst ex
          by_cases ey : ly = my
          · subst ey
            by_cases ez : lz = mz
            · subst ez
              have HE2 : Hid (∀ j, j < k + 1 → pt L j = pt M j) := HEQ.out ⟨rfl, rfl, rfl⟩
              clear HNE HEQ
              go_wp2_with (fail)
              go_region
              go_wp2_with (fail)
              go_roundg (L.length - (k + 1))
              case measure => have := HG.out; omega
              case rel => exact ⟨k + 1, by go_num, by omega, rfl, HE2, HB.out.drew⟩
            · have e : D = false := HNE.out (fun h => ez h.2.2)
              subst e
              have e1 : (lz == mz) = false := beq_eq_false_iff_ne.2 ez
              clear HNE HEQ
              go_wp2_with (fail)
              go_region
              go_wp2_with (fail)
              go_ret
              exact ⟨rfl, HB.out.drew⟩
          · have e : D = false := HNE.out (fun h => ey h.2.1)
            subst e
            have e1 : (ly == my) = false := beq_eq_false_iff_ne.2 ey
            clear HNE HEQ
            go_wp2_with (fail)
            go_region
            go_wp2_with (fail)
            go_ret
            exact ⟨rfl, HB.out.drew⟩
        · have e : D = false := HNE.out (fun h => ex h.1)
          subst e
          have e1 : (lx == mx) = false := beq_eq_false_iff_ne.2 ex
          clear HNE HEQ
          go_wp2_with (fail)
          go_region
          go_wp2_with (fail)
          go_ret
          exact ⟨rfl, HB.out.drew⟩
      · have e : D = true := by rw [← HD.out]; exact decide_eq_true (list_same HLL.out (fun i hi => HN.out i (by omega)))
        subst e
        go_wp2_with (fail)
        go_ret
        exact ⟨rfl, HB.out⟩
  · have hd : decide (L = M) = false := decide_eq_false (fun e => hl (by rw [e]))
    rw [hd]
    have hl' : ¬ (L.length : Int) = (M.length : Int) := by omega
    clear hd
    go_enter Try.func16, Try.ntmps16
    go_wp2_with (fail)
    go_ret
    exact ⟨rfl, Below.refl _ w⟩
theorem lies4 (w : World) (p q r s : Pt) : Lies (w.alloc (.cells #[.int .i64 p.x, .int .i64 p.y, .int .i64 p.z, .int .i64 q.x, .int .i64 q.y, .int .i64 q.z, .int .i64 r.x, .int .i64 r.y, .int .i64 r.z, .int .i64 s.x, .int .i64 s.y, .int .i64 s.z] 23)) (.slice (some ⟨w.heap.size, 0, none⟩) 4 4) [p, q, r, s] :=
  Lies.of_row (base := w.heap.size) (World.ownsRow_lit (e := 23) (size := 3) w _ 4 (Nat.le_refl _) (by unfold maxLen; omega) rfl)
theorem lies_nil (w : World) : Lies w (.slice none 0 0) [] := Lies.of_row (base := 0) (World.ownsRow_nil _ _ _ _)
def tetra : Sh := ⟨4, 0, Pt.O, [⟨0, 0, 0⟩, ⟨4, 0, 0⟩, ⟨0, 4, 0⟩, ⟨0, 0, 4⟩]⟩
def square : Sh := ⟨4, 0, Pt.O, [⟨0, 0, 0⟩, ⟨1, 0, 0⟩, ⟨0, 1, 0⟩, ⟨1, 1, 0⟩]⟩
def ball5 : Sh := ⟨1, 4096, Pt.O, []⟩
theorem tetra_ok : checkP tetra = 0 := by decide +kernel
theorem tetra_axes : axesP tetra = [⟨0, 0, -1⟩, ⟨0, -1, 0⟩, ⟨-1, 0, 0⟩, ⟨1, 1, 1⟩] := by decide +kernel
theorem square_flat : checkP square = 51 := by decide +kernel
theorem ball5_ok : checkP ball5 = 0 := by decide +kernel
theorem short64 : Pt.short ⟨6, -4, 0⟩ = ⟨3, -2, 0⟩ := by decide +kernel
theorem ball5_i : maxI (ballI 4294967296 (4096 * 1048576)) 4096 = 1717986918 := by decide +kernel
set_option maxHeartbeats 1000000 in
theorem mass_ball5 (w : World) : Calls Try.prog 13 #[.agg #[.int .i64 1, .int .i64 4096, .int .i64 0, .int .i64 0, .int .i64 0, .slice none 0 0], .int .i64 4294967296] w fun e W => e = .returned (.tuple #[.agg #[.int .i64 4294967296, .int .i64 1717986918, .int .i64 1717986918, .int .i64 1717986918], .int .i64 0]) ∧ Below w.heap.size w W := by
  have h := mass_of ball5 (.slice none 0 0) 4294967296 (ballI 4294967296 (4096 * 1048576)) (ballI 4294967296 (4096 * 1048576)) (ballI 4294967296 (4096 * 1048576)) w (lies_nil w) ball5_ok (by decide) (by decide)
    (fun W b vp va ve hp h2 h3 hc hf => inertia_ball b vp va ve 4096 4294967296 W hc hf (by decide) (by decide) (by decide) (by decide) (by obtain ⟨o, c, e, _⟩ := hp.form; exact ⟨o, _, c, e⟩) h2 h3)
  rw [ball5_i] at h
  unfold Sh.v at h
  dsimp only [ball5, Pt.O] at h
  exact h
set_option maxHeartbeats 2000000 in
set_option maxRecDepth 100000 in
theorem awake5_any (w0 : World) : Calls Try.prog 8 #[] w0 fun e W => e = .returned (.bool true) ∧ Below w0.heap.size w0 W := by
  have hc := core_any tetra _ _ (lies4 w0 ⟨0, 0, 0⟩ ⟨4, 0, 0⟩ ⟨0, 4, 0⟩ ⟨0, 0, 4⟩)
  rw [tetra_ok, tetra_axes] at hc
  generalize ptsP tetra = P0 at hc
  generalize edgesP tetra = E0 at hc
  unfold Sh.v at hc
  dsimp only [tetra, Pt.O] at hc
  have HC : Hid _ := hc
  clear hc
  have hb0 : Hid (Below w0.heap.size w0 (w0.alloc (.cells #[.int .i64 0, .int .i64 0, .int .i64 0, .int .i64 4, .int .i64 0, .int .i64 0, .int .i64 0, .int .i64 4, .int .i64 0, .int .i64 0, .int .i64 0, .int .i64 4] 23))) := n_after w0 _
  have HCK : Hid (∀ W : World, Calls Try.prog 9 #[.agg #[.int .i64 4, .int .i64 0, .int .i64 0, .int .i64 0, .int .i64 0, .slice (some ⟨W.heap.size, 0, none⟩) 4 4]] (W.alloc (.cells #[.int .i64 0, .int .i64 0, .int .i64 0, .int .i64 1, .int .i64 0, .int .i64 0, .int .i64 0, .int .i64 1, .int .i64 0, .int .i64 1, .int .i64 1, .int .i64 0] 23)) fun e W' => e = .returned (.int .i64 51) ∧ Below (W.alloc (.cells #[.int .i64 0, .int .i64 0, .int .i64 0, .int .i64 1, .int .i64 0, .int .i64 0, .int .i64 0, .int .i64 1, .int .i64 0, .int .i64 1, .int .i64 1, .int .i64 0] 23)).heap.size (W.alloc (.cells #[.int .i64 0, .int .i64 0, .int .i64 0, .int .i64 1, .int .i64 0, .int .i64 0, .int .i64 0, .int .i64 1, .int .i64 0, .int .i64 1, .int .i64 1, .int .i64 0] 23)) W') := fun W => by
    have := check_any square _ _ (lies4 W ⟨0, 0, 0⟩ ⟨1, 0, 0⟩ ⟨0, 1, 0⟩ ⟨1, 1, 0⟩)
    rw [square_flat] at this
    unfold Sh.v at this
    dsimp only [square, Pt.O] at this
    exact this
  have HSH : Hid (∀ W : World, Calls Try.prog 19 #[.agg #[.int .i64 6, .int .i64 (-4), .int .i64 0]] W fun e W' => e = .returned (.agg #[.int .i64 3, .int .i64 (-2), .int .i64 0]) ∧ Below W.heap.size W W') := fun W => by
    have := short_any ⟨6, -4, 0⟩ W
    rw [short64] at this
    unfold Pt.v at this
    dsimp only at this
    exact this
  have HCO : Hid (Calls Try.prog 11 #[.agg #[.int .i64 4, .int .i64 0, .int .i64 0, .int .i64 0, .int .i64 0, .slice (some ⟨w0.heap.size, 0, none⟩) 4 4]] (w0.alloc (.cells #[.int .i64 0, .int .i64 0, .int .i64 0, .int .i64 4, .int .i64 0, .int .i64 0, .int .i64 0, .int .i64 4, .int .i64 0, .int .i64 0, .int .i64 0, .int .i64 4] 23)) fun e W => ∃ o1 n1 c1 o2 c2 o3 n3 c3, e = .returned (.tuple #[.agg #[.slice o1 n1 c1, .slice o2 4 c2, .slice o3 n3 c3, .int .i64 0], .int .i64 0]) ∧ Lies W (.slice o2 4 c2) [⟨0, 0, -1⟩, ⟨0, -1, 0⟩, ⟨-1, 0, 0⟩, ⟨1, 1, 1⟩] ∧ Below (w0.alloc (.cells #[.int .i64 0, .int .i64 0, .int .i64 0, .int .i64 4, .int .i64 0, .int .i64 0, .int .i64 0, .int .i64 4, .int .i64 0, .int .i64 0, .int .i64 0, .int .i64 4] 23)).heap.size (w0.alloc (.cells #[.int .i64 0, .int .i64 0, .int .i64 0, .int .i64 4, .int .i64 0, .int .i64 0, .int .i64 0, .int .i64 4, .int .i64 0, .int .i64 0, .int .i64 0, .int .i64 4] 23)) W) := by
    refine Calls.mono HC.out ?_
    rintro e W ⟨vp, va, ve, _, h⟩
    obtain ⟨rfl, h3⟩ := h rfl
    obtain ⟨o1, c1, rfl⟩ := row_form h3.rp
    obtain ⟨o2, c2, rfl⟩ := row_form h3.ra
    obtain ⟨o3, c3, rfl⟩ := row_form h3.re
    exact ⟨o1, _, c1, o2, c2, o3, _, c3, rfl, Lies.of_row h3.ra, h3.below⟩
  clear HC
  go_enter Try.func8, Try.ntmps8
  go_wp2_with (fail)
  refine Calls.mono HCO.out ?_
  clear HCO
  rintro e V1 ⟨o1, n1, c1, o2, c2, o3, n3, c3, rfl, lx, hb⟩
  have hD : Hid _ := b_step hb0.out hb
  clear hb hb0
  have LX : Hid _ := lx
  clear lx
  go_upto_region 2 with fail
  obtain ⟨W1, hW1⟩ : ∃ W1 : World, W1 = V1.alloc (.cells #[.slice o1 n1 c1, .slice o2 4 c2, .slice o3 n3 c3, .int .i64 0] 31) := ⟨_, rfl⟩
  obtain ⟨b1, hb1⟩ : ∃ b1, b1 = V1.heap.size := ⟨_, rfl⟩
  have D1 : Hid (Cells W1 b1 [.slice o1 n1 c1, .slice o2 4 c2, .slice o3 n3 c3, .int .i64 0]) := by rw [hW1, hb1]; exact Cells.new V1 _ _
  have hX : Below V1.heap.size V1 W1 := by rw [hW1]; exact n_after _ _
  rw [← hW1, ← hb1]
  clear hW1 hb1
  have LX : Hid _ := LX.out.below hX
  have hD : Hid _ := b_step hD.out hX
  clear hX
  go_wp2_with (fail)
  refine Calls.mono (mass_ball5 W1) ?_
  rintro e V2 ⟨rfl, hb⟩
  have LX : Hid _ := LX.out.below hb
  have hD : Hid _ := b_step hD.out hb
  have D1 : Hid (Cells V2 b1 [.slice o1 n1 c1, .slice o2 4 c2, .slice o3 n3 c3, .int .i64 0]) := Cells.step D1.out hb
  clear hb
  go_upto_region 3 with fail
  obtain ⟨W2, hW2⟩ : ∃ W2 : World, W2 = V2.alloc (.cells #[.int .i64 4294967296, .int .i64 1717986918, .int .i64 1717986918, .int .i64 1717986918] 36) := ⟨_, rfl⟩
  obtain ⟨b3, hb3⟩ : ∃ b3, b3 = V2.heap.size := ⟨_, rfl⟩
  have D3 : Hid (Cells W2 b3 [.int .i64 4294967296, .int .i64 1717986918, .int .i64 1717986918, .int .i64 1717986918]) := by rw [hW2, hb3]; exact Cells.new V2 _ _
  have hX : Below V2.heap.size V2 W2 := by rw [hW2]; exact n_after _ _
  rw [← hW2, ← hb3]
  clear hW2 hb3
  have LX : Hid _ := LX.out.below hX
  have hD : Hid _ := b_step hD.out hX
  have D1 : Hid (Cells W2 b1 [.slice o1 n1 c1, .slice o2 4 c2, .slice o3 n3 c3, .int .i64 0]) := Cells.step D1.out hX
  clear hX
  go_wp2_with (fail)
  refine Calls.mono (HCK.out W2) ?_
  clear HCK
  rintro e V3 ⟨rfl, hb⟩
  have hb := b_step (n_after W2 _) hb
  have LX : Hid _ := LX.out.below hb
  have hD : Hid _ := b_step hD.out hb
  have D1 : Hid (Cells V3 b1 [.slice o1 n1 c1, .slice o2 4 c2, .slice o3 n3 c3, .int .i64 0]) := Cells.step D1.out hb
  have D3 : Hid (Cells V3 b3 [.int .i64 4294967296, .int .i64 1717986918, .int .i64 1717986918, .int .i64 1717986918]) := Cells.step D3.out hb
  clear hb
  go_wp2_with (fail)
  refine Calls.mono (HSH.out V3) ?_
  clear HSH
  rintro e V4 ⟨rfl, hb⟩
  have LX : Hid _ := LX.out.below hb
  have hD : Hid _ := b_step hD.out hb
  have D1 : Hid (Cells V4 b1 [.slice o1 n1 c1, .slice o2 4 c2, .slice o3 n3 c3, .int .i64 0]) := Cells.step D1.out hb
  have D3 : Hid (Cells V4 b3 [.int .i64 4294967296, .int .i64 1717986918, .int .i64 1717986918, .int .i64 1717986918]) := Cells.step D3.out hb
  clear hb
  go_upto_region 5 with fail
  obtain ⟨W5, hW5⟩ : ∃ W5 : World, W5 = V4.alloc (.cells #[.int .i64 3, .int .i64 (-2), .int .i64 0] 23) := ⟨_, rfl⟩
  obtain ⟨b6, hb6⟩ : ∃ b6, b6 = V4.heap.size := ⟨_, rfl⟩
  have D6 : Hid (Cells W5 b6 [.int .i64 3, .int .i64 (-2), .int .i64 0]) := by rw [hW5, hb6]; exact Cells.new V4 _ _
  have hX : Below V4.heap.size V4 W5 := by rw [hW5]; exact n_after _ _
  rw [← hW5, ← hb6]
  clear hW5 hb6
  have LX : Hid _ := LX.out.below hX
  have hD : Hid _ := b_step hD.out hX
  have D1 : Hid (Cells W5 b1 [.slice o1 n1 c1, .slice o2 4 c2, .slice o3 n3 c3, .int .i64 0]) := Cells.step D1.out hX
  have D3 : Hid (Cells W5 b3 [.int .i64 4294967296, .int .i64 1717986918, .int .i64 1717986918, .int .i64 1717986918]) := Cells.step D3.out hX
  clear hX
  have s1 := (D1.out 1 _ rfl).1
  go_wp2_with (fail)
  refine Calls.mono (points_any _ _ _ _ _ (LX.out.below (n_after W5 _)) (lies4 W5 ⟨0, 0, -1⟩ ⟨0, -1, 0⟩ ⟨-1, 0, 0⟩ ⟨1, 1, 1⟩)) ?_
  rintro e V6 ⟨rfl, hb⟩
  have hb := b_step (n_after W5 _) hb
  have hD : Hid _ := b_step hD.out hb
  have s3 := ((Cells.step D3.out hb) 1 _ rfl).1
  have s60 := ((Cells.step D6.out hb) 0 _ rfl).1
  have s61 := ((Cells.step D6.out hb) 1 _ rfl).1
  have s62 := ((Cells.step D6.out hb) 2 _ rfl).1
  clear hb s1
  simp only [decide_true]
  go_wp2_with (fail)
  go_ret
  exact ⟨rfl, hD.out⟩
end Go.Proofs.Ytiicpdlaaklahaa
