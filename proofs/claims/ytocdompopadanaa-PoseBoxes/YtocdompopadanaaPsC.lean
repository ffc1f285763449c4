/- The document's own Meet, Grown and Join of boxes: all inputs. -/
import Derived.Test.YtocdompopadanaaPsB
namespace Go.Proofs.Ytocdompopadanaa
open Go.RowKit Go.Shelf
set_option linter.unusedVariables false

set_option maxHeartbeats 4000000 in
set_option maxRecDepth 100000 in
theorem rmeet_any (a b : Bx) (w0 : World) :
    Calls Try.prog 8 #[a.v, b.v] w0 fun e W => e = .returned (.bool (a.meet b)) ∧ Below w0.heap.size w0 W := by
  obtain ⟨⟨x, y, z⟩, ⟨xh, yh, zh⟩⟩ := a
  obtain ⟨⟨x', y', z'⟩, ⟨xh', yh', zh'⟩⟩ := b
  obtain ⟨M, hM⟩ : ∃ M, Bx.meet ⟨⟨x, y, z⟩, ⟨xh, yh, zh⟩⟩ ⟨⟨x', y', z'⟩, ⟨xh', yh', zh'⟩⟩ = M := ⟨_, rfl⟩
  rw [hM]
  have HT : Hid (x ≤ xh' → x' ≤ xh → y ≤ yh' → y' ≤ yh → z ≤ zh' → z' ≤ zh → M = true) := fun h0 h1 h2 h3 h4 h5 => by rw [← hM]; unfold Bx.meet Pt.le; simp [h0, h1, h2, h3, h4, h5]
  have HF0 : Hid (¬ x ≤ xh' → M = false) := fun h => by rw [← hM]; unfold Bx.meet Pt.le; simp; omega
  have HF1 : Hid (¬ x' ≤ xh → M = false) := fun h => by rw [← hM]; unfold Bx.meet Pt.le; simp; omega
  have HF2 : Hid (¬ y ≤ yh' → M = false) := fun h => by rw [← hM]; unfold Bx.meet Pt.le; simp; omega
  have HF3 : Hid (¬ y' ≤ yh → M = false) := fun h => by rw [← hM]; unfold Bx.meet Pt.le; simp; omega
  have HF4 : Hid (¬ z ≤ zh' → M = false) := fun h => by rw [← hM]; unfold Bx.meet Pt.le; simp; omega
  have HF5 : Hid (¬ z' ≤ zh → M = false) := fun h => by rw [← hM]; unfold Bx.meet Pt.le; simp; omega
  clear hM
  unfold Bx.v
  dsimp only
  by_cases h0 : x ≤ xh'
  · by_cases h1 : x' ≤ xh
    · by_cases h2 : y ≤ yh'
      · by_cases h3 : y' ≤ yh
        · by_cases h4 : z ≤ zh'
          · by_cases h5 : z' ≤ zh
            · go_enter Try.func8, Try.ntmps8
              go_wp2
              go_ret
              exact ⟨by rw [HT.out h0 h1 h2 h3 h4 h5]; rfl, b_step (n_after w0 _) (n_after _ _)⟩
            · go_enter Try.func8, Try.ntmps8
              go_wp2
              go_ret
              exact ⟨by rw [HF5.out (by omega)]; rfl, b_step (n_after w0 _) (n_after _ _)⟩
          · go_enter Try.func8, Try.ntmps8
            go_wp2
            go_ret
            exact ⟨by rw [HF4.out (by omega)]; rfl, b_step (n_after w0 _) (n_after _ _)⟩
        · go_enter Try.func8, Try.ntmps8
          go_wp2
          go_ret
          exact ⟨by rw [HF3.out (by omega)]; rfl, b_step (n_after w0 _) (n_after _ _)⟩
      · go_enter Try.func8, Try.ntmps8
        go_wp2
        go_ret
        exact ⟨by rw [HF2.out (by omega)]; rfl, b_step (n_after w0 _) (n_after _ _)⟩
    · go_enter Try.func8, Try.ntmps8
      go_wp2
      go_ret
      exact ⟨by rw [HF1.out (by omega)]; rfl, b_step (n_after w0 _) (n_after _ _)⟩
  · go_enter Try.func8, Try.ntmps8
    go_wp2
    go_ret
    exact ⟨by rw [HF0.out (by omega)]; rfl, b_step (n_after w0 _) (n_after _ _)⟩
set_option maxHeartbeats 2000000 in
set_option maxRecDepth 100000 in
theorem rjoin_any (a b : Bx) (w0 : World) :
    Calls Try.prog 11 #[a.v, b.v] w0 fun e W => e = .returned (a.join b).v ∧ Below w0.heap.size w0 W := by
  obtain ⟨⟨x, y, z⟩, ⟨xh, yh, zh⟩⟩ := a
  obtain ⟨⟨x', y', z'⟩, ⟨xh', yh', zh'⟩⟩ := b
  unfold Bx.join Bx.v Pt.lesser Pt.greater lowI highI
  dsimp only
  obtain ⟨s0, h0⟩ : ∃ s, (if x' < x then x' else x) = s := ⟨_, rfl⟩
  obtain ⟨s1, h1⟩ : ∃ s, (if y' < y then y' else y) = s := ⟨_, rfl⟩
  obtain ⟨s2, h2⟩ : ∃ s, (if z' < z then z' else z) = s := ⟨_, rfl⟩
  obtain ⟨s3, h3⟩ : ∃ s, (if xh' > xh then xh' else xh) = s := ⟨_, rfl⟩
  obtain ⟨s4, h4⟩ : ∃ s, (if yh' > yh then yh' else yh) = s := ⟨_, rfl⟩
  obtain ⟨s5, h5⟩ : ∃ s, (if zh' > zh then zh' else zh) = s := ⟨_, rfl⟩
  rw [h0, h1, h2, h3, h4, h5]
  go_enter Try.func11, Try.ntmps11
  go_wp2
  exact bodyPost_ret (v := .agg #[.int .i64 s0, .int .i64 s1, .int .i64 s2, .int .i64 s3, .int .i64 s4, .int .i64 s5]) (by simp [results, Try.results11, go_sem]) rfl ⟨rfl, b_step (b_step (n_after w0 _) (n_after _ _)) (n_after _ _)⟩
set_option maxHeartbeats 2000000 in
set_option maxRecDepth 100000 in
theorem rgrown_any (a : Bx) (n : Int) (w0 : World) :
    Calls Try.prog 10 #[a.v, .int .i64 n] w0 fun e W => e = .returned (a.grown n).v ∧ Below w0.heap.size w0 W := by
  obtain ⟨⟨x, y, z⟩, ⟨xh, yh, zh⟩⟩ := a
  unfold Bx.grown Bx.v Pt.plus
  dsimp only
  rw [← wrap_sub x n]
  obtain ⟨s0, h0⟩ : ∃ s, IntKind.i64.wrap (x - n) = s := ⟨_, rfl⟩
  rw [← wrap_sub y n]
  obtain ⟨s1, h1⟩ : ∃ s, IntKind.i64.wrap (y - n) = s := ⟨_, rfl⟩
  rw [← wrap_sub z n]
  obtain ⟨s2, h2⟩ : ∃ s, IntKind.i64.wrap (z - n) = s := ⟨_, rfl⟩
  obtain ⟨s3, h3⟩ : ∃ s, IntKind.i64.wrap (xh + n) = s := ⟨_, rfl⟩
  obtain ⟨s4, h4⟩ : ∃ s, IntKind.i64.wrap (yh + n) = s := ⟨_, rfl⟩
  obtain ⟨s5, h5⟩ : ∃ s, IntKind.i64.wrap (zh + n) = s := ⟨_, rfl⟩
  rw [h0, h1, h2, h3, h4, h5]
  go_enter Try.func10, Try.ntmps10
  go_wp2
  exact bodyPost_ret (v := .agg #[.int .i64 s0, .int .i64 s1, .int .i64 s2, .int .i64 s3, .int .i64 s4, .int .i64 s5]) (by simp [results, Try.results10, go_sem]) rfl ⟨rfl, b_step (n_after w0 _) (n_after _ _)⟩
end Go.Proofs.Ytocdompopadanaa
