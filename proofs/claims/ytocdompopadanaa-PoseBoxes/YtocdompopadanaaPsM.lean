/- Layer 6's examples. -/
import Derived.Test.YtocdompopadanaaPsL
namespace Go.Proofs.Ytocdompopadanaa
open Go.RowKit Go.Shelf
set_option linter.unusedVariables false

def ball5 : Sh := ⟨1, 5, ⟨0, 0, 0⟩, []⟩
theorem ball5_ok : checkP ball5 = 0 := by decide +kernel
theorem ball5_pts : ptsP ball5 = [Pt.O] := by decide +kernel
theorem ball5_axes : axesP ball5 = [] := by decide +kernel
theorem ball5_edges : edgesP ball5 = [] := by decide +kernel
theorem ex_ok : placeOk ⟨4294967296, 0, -1⟩ ⟨4294967296, 0, 0, 0⟩ [Pt.O] [] [] = true := by decide +kernel
theorem ex_at : [Pt.O].map ((rowsM ⟨4294967296, 0, 0, 0⟩).ptV ⟨4294967296, 0, -1⟩) = [⟨4096, 0, -1⟩] := by decide +kernel
theorem ex_dirs : (rowsM ⟨4294967296, 0, 0, 0⟩).dirs [] = [] := by decide +kernel
theorem ex_span : (spanP [⟨4096, 0, -1⟩] 5).v = .agg #[.int .i64 4091, .int .i64 (-5), .int .i64 (-6), .int .i64 4101, .int .i64 5, .int .i64 4] := by
  have e : spanP [⟨4096, 0, -1⟩] 5 = ⟨⟨4091, -5, -6⟩, ⟨4101, 5, 4⟩⟩ := by rfl
  rw [e]; rfl
theorem lies_none (w : World) : Lies w (.slice none 0 0) [] := ⟨none, 0, rfl, Nat.le_refl _, by omega, fun i hi => by simp at hi⟩
set_option maxHeartbeats 4000000 in
set_option maxRecDepth 100000 in
theorem awake6_any (w0 : World) : Calls Try.prog 5 #[] w0 fun e W => e = .returned (.bool true) ∧ Below w0.heap.size w0 W := by
  have HC : Hid (Calls Try.prog 12 #[.agg #[.int .i64 1, .int .i64 5, .int .i64 0, .int .i64 0, .int .i64 0, .slice none 0 0]] w0 fun e W => ∃ o c o2 c2 o3 c3, e = .returned (.tuple #[.agg #[.slice o 1 c, .slice o2 0 c2, .slice o3 0 c3, .int .i64 5], .int .i64 0]) ∧ Hid (Lies W (.slice o 1 c) [Pt.O] ∧ Lies W (.slice o2 0 c2) [] ∧ Lies W (.slice o3 0 c3) []) ∧ Below w0.heap.size w0 W) := by
    have hc := core_any ball5 (.slice none 0 0) w0 (lies_none _)
    rw [ball5_ok, ball5_pts, ball5_axes, ball5_edges] at hc
    unfold Sh.v at hc
    dsimp only [ball5] at hc
    refine Calls.mono hc ?_
    rintro e W ⟨vp, va, ve, _, h⟩
    obtain ⟨rfl, h3⟩ := h rfl
    obtain ⟨o1, c1, rfl⟩ := rowp_form h3.rp
    obtain ⟨o2, c2, rfl⟩ := rowp_form h3.ra
    obtain ⟨o3, c3, rfl⟩ := rowp_form h3.re
    exact ⟨o1, c1, o2, c2, o3, c3, rfl, ⟨Lies.of_row h3.rp, Lies.of_row h3.ra, Lies.of_row h3.re⟩, h3.below⟩
  have HP : Hid (∀ o c o2 c2 o3 c3 (W : World), Lies W (.slice o 1 c) [Pt.O] → Lies W (.slice o2 0 c2) [] → Lies W (.slice o3 0 c3) [] → Calls Try.prog 15 #[.agg #[.slice o 1 c, .slice o2 0 c2, .slice o3 0 c3, .int .i64 5], .agg #[.int .i64 4294967296, .int .i64 0, .int .i64 (-1), .int .i64 4294967296, .int .i64 0, .int .i64 0, .int .i64 0]] W fun e W' => ∃ o c o2 c2 o3 c3, e = .returned (.tuple #[.agg #[.slice o 1 c, .slice o2 0 c2, .slice o3 0 c3, .int .i64 5], .bool true]) ∧ Hid (Lies W' (.slice o 1 c) [⟨4096, 0, -1⟩] ∧ Lies W' (.slice o2 0 c2) [] ∧ Lies W' (.slice o3 0 c3) []) ∧ Below W.heap.size W W') := by
    intro o c o2 c2 o3 c3 W l1 l2 l3
    have hc := place_any ⟨4294967296, 0, -1⟩ ⟨4294967296, 0, 0, 0⟩ [Pt.O] [] [] 5 _ _ _ W l1 l2 l3 (by decide) (by decide) (by decide)
    rw [ex_ok, ex_at, ex_dirs] at hc
    unfold coreV poseV at hc
    dsimp only at hc
    refine Calls.mono hc ?_
    rintro e W ⟨vp, va, ve, _, h⟩
    obtain ⟨rfl, h3⟩ := h rfl
    obtain ⟨o1, c1, rfl⟩ := rowp_form h3.rp
    obtain ⟨o2, c2, rfl⟩ := rowp_form h3.ra
    obtain ⟨o3, c3, rfl⟩ := rowp_form h3.re
    exact ⟨o1, c1, o2, c2, o3, c3, rfl, ⟨Lies.of_row h3.rp, Lies.of_row h3.ra, Lies.of_row h3.re⟩, h3.below⟩
  have HS : Hid (∀ o c o2 c2 o3 c3 (W : World), Lies W (.slice o 1 c) [⟨4096, 0, -1⟩] → Lies W (.slice o2 0 c2) [] → Lies W (.slice o3 0 c3) [] → Calls Try.prog 17 #[.agg #[.slice o 1 c, .slice o2 0 c2, .slice o3 0 c3, .int .i64 5]] W fun e W' => e = .returned (.agg #[.int .i64 4091, .int .i64 (-5), .int .i64 (-6), .int .i64 4101, .int .i64 5, .int .i64 4]) ∧ Below W.heap.size W W') := by
    intro o c o2 c2 o3 c3 W l1 l2 l3
    have hc := span_any [⟨4096, 0, -1⟩] [] [] 5 _ _ _ W l1 l2 l3
    rw [ex_span] at hc
    exact hc
  go_enter Try.func5, Try.ntmps5
  go_wp2_with (fail)
  refine Calls.mono HC.out ?_
  clear HC
  rintro e V1 ⟨o, c, o2, c2, o3, c3, rfl, HL, hb⟩
  have hB : Hid _ := b_step hb (n_after V1 (.cells #[.slice o 1 c, .slice o2 0 c2, .slice o3 0 c3, .int .i64 5] 35))
  have HL : Hid _ := And.intro (HL.out.1.below (n_after V1 (.cells #[.slice o 1 c, .slice o2 0 c2, .slice o3 0 c3, .int .i64 5] 35))) (And.intro (HL.out.2.1.below (n_after V1 (.cells #[.slice o 1 c, .slice o2 0 c2, .slice o3 0 c3, .int .i64 5] 35))) (HL.out.2.2.below (n_after V1 (.cells #[.slice o 1 c, .slice o2 0 c2, .slice o3 0 c3, .int .i64 5] 35))))
  clear hb
  go_wp2_with (fail)
  refine Calls.mono (HP.out _ _ _ _ _ _ _ HL.out.1 HL.out.2.1 HL.out.2.2) ?_
  clear HP HL
  rintro e V2 ⟨o, c, o2, c2, o3, c3, rfl, HL, hb⟩
  have hB : Hid _ := b_step (b_step hB.out hb) (n_after V2 (.cells #[.slice o 1 c, .slice o2 0 c2, .slice o3 0 c3, .int .i64 5] 35))
  have HL : Hid _ := And.intro (HL.out.1.below (n_after V2 (.cells #[.slice o 1 c, .slice o2 0 c2, .slice o3 0 c3, .int .i64 5] 35))) (And.intro (HL.out.2.1.below (n_after V2 (.cells #[.slice o 1 c, .slice o2 0 c2, .slice o3 0 c3, .int .i64 5] 35))) (HL.out.2.2.below (n_after V2 (.cells #[.slice o 1 c, .slice o2 0 c2, .slice o3 0 c3, .int .i64 5] 35))))
  have C1 : Hid (Cells (V2.alloc (.cells #[.slice o 1 c, .slice o2 0 c2, .slice o3 0 c3, .int .i64 5] 35)) V2.heap.size [.slice o 1 c, .slice o2 0 c2, .slice o3 0 c3, .int .i64 5]) := Cells.new _ _ _
  clear hb
  go_wp2_with (fail)
  refine Calls.mono (HS.out _ _ _ _ _ _ _ HL.out.1 HL.out.2.1 HL.out.2.2) ?_
  clear HS
  rintro e V3 ⟨rfl, hb⟩
  have hB3 : Hid _ := b_step (b_step hB.out hb) (n_after V3 (.cells #[.int .i64 4091, .int .i64 (-5), .int .i64 (-6), .int .i64 4101, .int .i64 5, .int .i64 4] 25))
  have hl2 : V2.heap.size < V3.heap.size := by have := hb.size; simp at this; omega
  have z0 := ((Cells.step C1.out hb) 0 _ rfl).1
  obtain ⟨o', c', e', _, _, hcell⟩ := (HL.out.1.below hb).form
  obtain ⟨g, off, e2, x0, x1, x2⟩ := hcell 0 (by decide)
  simp only [Value.slice.injEq] at e'
  rw [← e'.1] at e2
  subst e2
  have hgl : g < V3.heap.size := World.block_lt_of_cell? _ _ x0
  have x0 : V3.cell? ⟨g, off, none⟩ = some (.int .i64 4096) := x0
  have x1 : V3.cell? ⟨g, off + 1, none⟩ = some (.int .i64 0) := x1
  have x2 : V3.cell? ⟨g, off + 2, none⟩ = some (.int .i64 (-1)) := x2
  clear hcell e' hb C1 HL
  go_wp2_with (fail)
  go_ret
  exact ⟨rfl, hB3.out⟩
end Go.Proofs.Ytocdompopadanaa
