/- A heavier body has no less inertia, and one that is wider neither: for every raw shape that is no hull. -/
import Derived.Test.YtepepnjpceljiaaShM
import Derived.Test.YtepepnjpceljiaaShP
import Derived.Test.YtepepnjpceljiaaOpenR
import Derived.Test.YtepepnjpceljiaaRows
import Derived.ProofKit
import Derived.OpenShut
namespace Go.Proofs.Ytepepnjpceljiaa
namespace shapeHeavy
open Go.ChangeShapes Go.WideShapes Go.ChangeAt Go.RowKit
set_option linter.unusedVariables false

theorem own : ownKnob Try.prog.godebug = none := by kernel_rfl
theorem laidOut : laidOutB Try.prog = true := by kernel_rfl
theorem Cells.other {W : World} {b g : Nat} {vs : List Value} (h : Cells W b vs) (hne : b ≠ g) (k : Nat) (u : Value) : Cells (W.setCell ⟨g, k, none⟩ u) b vs := fun i v e => by
  obtain ⟨q1, q2⟩ := h i v e
  exact ⟨by simp [go_sem, q1], by simp [go_sem, q2]⟩
theorem pick_ex (c n : Int) (hc : -9223372036854775808 ≤ c ∧ c ≤ 9223372036854775807) (hn : 0 < n) (hn' : n ≤ 9223372036854775807) :
    ∃ q : Int, 0 ≤ q ∧ q < n ∧ ∀ w : World, Calls Try.prog 19 #[.int .i64 c, .int .i64 n] w fun e w' => e = .returned (.int .i64 q) ∧ w' = w := ⟨_, pickZ_lo c hn, pickZ_hi c hn, fun w => pick_any c n w hc hn hn'⟩
theorem right_ex (k r x y z : Int) (o : Option Addr) (n c : Nat) (k0 : 0 ≤ k) (k1 : k < 3) (br : -9223372036854775808 ≤ r ∧ r ≤ 9223372036854775807) (bx : -9223372036854775808 ≤ x ∧ x ≤ 9223372036854775807) (by_ : -9223372036854775808 ≤ y ∧ y ≤ 9223372036854775807) (bz : -9223372036854775808 ≤ z ∧ z ≤ 9223372036854775807) :
    ∃ sk sr sx sy sz : Int, (1 ≤ sk ∧ sk ≤ 3) ∧ (1 ≤ sr ∧ sr ≤ 16384) ∧ (1 ≤ sx ∧ sx ≤ 65536) ∧ (1 ≤ sy ∧ sy ≤ 65536) ∧ (1 ≤ sz ∧ sz ≤ 65536) ∧ ∀ w : World, Calls Try.prog 18 #[.agg #[.int .i64 k, .int .i64 r, .int .i64 x, .int .i64 y, .int .i64 z, .slice o n c]] w fun e W => e = .returned (.agg #[.int .i64 sk, .int .i64 sr, .int .i64 sx, .int .i64 sy, .int .i64 sz, .slice none 0 0]) ∧ Below w.heap.size w W := by
  have l2 := pickZ_lo r (n := 16384) (by decide)
  have u2 := pickZ_hi r (n := 16384) (by decide)
  have l3 := pickZ_lo x (n := 65536) (by decide)
  have u3 := pickZ_hi x (n := 65536) (by decide)
  have l4 := pickZ_lo y (n := 65536) (by decide)
  have u4 := pickZ_hi y (n := 65536) (by decide)
  have l5 := pickZ_lo z (n := 65536) (by decide)
  have u5 := pickZ_hi z (n := 65536) (by decide)
  exact ⟨_, _, _, _, _, ⟨by omega, by omega⟩, ⟨by omega, by omega⟩, ⟨by omega, by omega⟩, ⟨by omega, by omega⟩, ⟨by omega, by omega⟩, fun w => right_small k r x y z o n c w k0 k1 br bx by_ bz⟩
theorem mass_ex (sk sr sx sy sz a b : Int) (hk : 1 ≤ sk ∧ sk ≤ 3) (hr : 1 ≤ sr ∧ sr ≤ 16384) (hx : 1 ≤ sx ∧ sx ≤ 65536) (hy : 1 ≤ sy ∧ sy ≤ 65536) (hz : 1 ≤ sz ∧ sz ≤ 65536) (a0 : 16777216 ≤ a) (ab : a ≤ b) (b1 : b ≤ 1099511627776) :
    ∃ mx my mz nx ny nz ox oy oz : Int, (mx ≤ nx ∧ my ≤ ny ∧ mz ≤ nz) ∧ (mx ≤ ox ∧ my ≤ oy ∧ mz ≤ oz) ∧
      (∀ w : World, Calls Try.prog 14 #[.agg #[.int .i64 sk, .int .i64 sr, .int .i64 sx, .int .i64 sy, .int .i64 sz, .slice none 0 0], .int .i64 a] w fun e W => e = .returned (.tuple #[.agg #[.int .i64 a, .int .i64 mx, .int .i64 my, .int .i64 mz], .int .i64 0]) ∧ Below w.heap.size w W) ∧
      (∀ w : World, Calls Try.prog 14 #[.agg #[.int .i64 sk, .int .i64 sr, .int .i64 sx, .int .i64 sy, .int .i64 sz, .slice none 0 0], .int .i64 b] w fun e W => e = .returned (.tuple #[.agg #[.int .i64 b, .int .i64 nx, .int .i64 ny, .int .i64 nz], .int .i64 0]) ∧ Below w.heap.size w W) ∧
      (∀ w : World, Calls Try.prog 14 #[.agg #[.int .i64 sk, .int .i64 16384, .int .i64 sx, .int .i64 sy, .int .i64 sz, .slice none 0 0], .int .i64 a] w fun e W => e = .returned (.tuple #[.agg #[.int .i64 a, .int .i64 ox, .int .i64 oy, .int .i64 oz], .int .i64 0]) ∧ Below w.heap.size w W) := by
  have hs : Small ⟨sk, sr, ⟨sx, sy, sz⟩, []⟩ := ⟨by dsimp only; omega, hr.1, hr.2, hx, hy, hz⟩
  have ht : Small ⟨sk, 16384, ⟨sx, sy, sz⟩, []⟩ := ⟨by dsimp only; omega, by dsimp only; omega, by dsimp only; omega, hx, hy, hz⟩
  obtain ⟨i1, i2, i3⟩ := iner_mono _ sr a b hs (Int.le_refl _) (by omega) ab
  obtain ⟨j1, j2, j3⟩ := iner_mono _ 16384 a a hs hr.2 (by omega) (Int.le_refl _)
  exact ⟨_, _, _, _, _, _, _, _, _, ⟨maxI_mono i1, maxI_mono i2, maxI_mono i3⟩, ⟨maxI_mono j1, maxI_mono j2, maxI_mono j3⟩,
    fun w => mass_small _ (.slice none 0 0) a w hs (lies_nil w) a0 (by omega), fun w => mass_small _ (.slice none 0 0) b w hs (lies_nil w) (by omega) b1, fun w => mass_small _ (.slice none 0 0) a w ht (lies_nil w) a0 (by omega)⟩
set_option maxHeartbeats 2000000 in
set_option maxRecDepth 100000 in
theorem walk (k rr x y z : Int) (o : Option Addr) (n c : Nat) (mass more : Int) (w0 : World) (bk : -9223372036854775808 ≤ k ∧ k ≤ 9223372036854775807) (br : -9223372036854775808 ≤ rr ∧ rr ≤ 9223372036854775807) (bx : -9223372036854775808 ≤ x ∧ x ≤ 9223372036854775807) (by_ : -9223372036854775808 ≤ y ∧ y ≤ 9223372036854775807) (bz : -9223372036854775808 ≤ z ∧ z ≤ 9223372036854775807) (bm : -9223372036854775808 ≤ mass ∧ mass ≤ 9223372036854775807) (bo : -9223372036854775808 ≤ more ∧ more ≤ 9223372036854775807) :
    Calls Try.prog 7 #[.agg #[.int .i64 k, .int .i64 rr, .int .i64 x, .int .i64 y, .int .i64 z, .slice o n c], .int .i64 mass, .int .i64 more] w0 fun e w' => e = .returned (.bool true) ∧ Below w0.heap.size w0 w' := by
  have AW : Hid _ := fun W => awake5_any W
  obtain ⟨kz, k0, k1, P1'⟩ := pick_ex k 3 bk (by decide) (by decide)
  have P1 : Hid _ := P1'
  obtain ⟨sk, sr, sx, sy, sz, g1, g2, g3, g4, g5, HR'⟩ := right_ex kz rr x y z o n c k0 k1 br bx by_ bz
  have HR : Hid _ := HR'
  obtain ⟨pm, l6, u6, P2'⟩ := pick_ex mass 1099494850561 bm (by decide) (by decide)
  have P2 : Hid _ := P2'
  obtain ⟨a, ha⟩ : ∃ a, a = 16777216 + pm := ⟨_, rfl⟩
  have e27 : IntKind.i64.wrap (16777216 + pm) = a := by rw [IntKind.wrap_i64]; omega
  have a0 : 16777216 ≤ a := by omega
  have a1 : a ≤ 1099511627776 := by omega
  obtain ⟨pb, l7, u7, P3'⟩ := pick_ex more (1099511627776 - a + 1) bo (by omega) (by omega)
  have P3 : Hid _ := P3'
  have e31 : IntKind.i64.wrap (1099511627776 - a) = 1099511627776 - a := by rw [IntKind.wrap_i64]; omega
  have e32 : IntKind.i64.wrap (1099511627776 - a + 1) = 1099511627776 - a + 1 := by rw [IntKind.wrap_i64]; omega
  obtain ⟨b, hb⟩ : ∃ b, b = a + pb := ⟨_, rfl⟩
  have e34 : IntKind.i64.wrap (a + pb) = b := by rw [IntKind.wrap_i64]; omega
  obtain ⟨mx, my, mz, nx, ny, nz, ox, oy, oz, ⟨i1, i2, i3⟩, ⟨j1, j2, j3⟩, M1', M2', M3'⟩ := mass_ex sk sr sx sy sz a b g1 g2 g3 g4 g5 a0 (by omega) (by omega)
  clear ha hb
  have M1 : Hid _ := M1'
  have M2 : Hid _ := M2'
  have M3 : Hid _ := M3'
  clear P1' HR' P2' P3' M1' M2' M3' g1 g2 g3 g4 g5 k0 k1 l6 u6 l7 u7 bk br bx by_ bz bm bo a0 a1
  have B1 : Hid (Cells (w0.alloc (.cells #[.int .i64 k, .int .i64 rr, .int .i64 x, .int .i64 y, .int .i64 z, .slice o n c] 42)) w0.heap.size [.int .i64 k, .int .i64 rr, .int .i64 x, .int .i64 y, .int .i64 z, .slice o n c]) := Cells.new w0 [.int .i64 k, .int .i64 rr, .int .i64 x, .int .i64 y, .int .i64 z, .slice o n c] _
  have hB : Hid (Below w0.heap.size w0 (w0.alloc (.cells #[.int .i64 k, .int .i64 rr, .int .i64 x, .int .i64 y, .int .i64 z, .slice o n c] 42))) := n_after w0 _
  go_enter Try.func7, Try.ntmps7
  go_wp2_with (fail)
  refine Calls.mono (AW.out _) ?_
  clear AW
  rintro e V ⟨rfl, h⟩
  have B1 : Hid (Cells V w0.heap.size [.int .i64 k, .int .i64 rr, .int .i64 x, .int .i64 y, .int .i64 z, .slice o n c]) := Cells.step B1.out h
  have hD : Hid _ := b_step hB.out h
  clear h hB
  have c0 := (B1.out 0 _ rfl).1
  have f0 := (B1.out 0 _ rfl).2
  go_wp2_with (fail)
  refine Calls.mono (P1.out _) ?_
  clear P1
  rintro e V9 ⟨rfl, rfl⟩
  go_upto_region 3 with fail
  have B2 : Hid (Cells (V9.setCell ⟨w0.heap.size, 0, none⟩ (.int .i64 kz)) w0.heap.size [.int .i64 kz, .int .i64 rr, .int .i64 x, .int .i64 y, .int .i64 z, .slice o n c]) := Cells.set B1.out 0 (.int .i64 kz) (by simp)
  have hE : Hid (Below w0.heap.size w0 (V9.setCell ⟨w0.heap.size, 0, none⟩ (.int .i64 kz))) := hD.out.setCell (Nat.le_refl _) _
  generalize V9.setCell ⟨w0.heap.size, 0, none⟩ (.int .i64 kz) = V1 at *
  clear c0 f0 B1 hD
  have c0 := (B2.out 0 _ rfl).1
  have c1 := (B2.out 1 _ rfl).1
  have c2 := (B2.out 2 _ rfl).1
  have c3 := (B2.out 3 _ rfl).1
  have c4 := (B2.out 4 _ rfl).1
  have c5 := (B2.out 5 _ rfl).1
  go_wp2_with (fail)
  refine Calls.mono (HR.out _) ?_
  clear HR
  rintro e V2 ⟨rfl, h⟩
  have hD : Hid _ := b_step hE.out h
  clear h c0 c1 c2 c3 c4 c5 B2 hE
  go_upto_region 4 with fail
  obtain ⟨V3, hN⟩ : ∃ X : World, X = V2.alloc (.cells #[.int .i64 sk, .int .i64 sr, .int .i64 sx, .int .i64 sy, .int .i64 sz, .slice none 0 0] 26) := ⟨_, rfl⟩
  obtain ⟨bs, hbb⟩ : ∃ b, b = V2.heap.size := ⟨_, rfl⟩
  have h : Below V2.heap.size V2 V3 := by rw [hN]; exact n_after _ _
  have BS : Hid (Cells V3 bs [.int .i64 sk, .int .i64 sr, .int .i64 sx, .int .i64 sy, .int .i64 sz, .slice none 0 0]) := by rw [hN, hbb]; exact Cells.new V2 [.int .i64 sk, .int .i64 sr, .int .i64 sx, .int .i64 sy, .int .i64 sz, .slice none 0 0] _
  rw [← hN, ← hbb]
  clear hN
  have hD : Hid _ := b_step hD.out h
  clear h hbb
  go_wp2_with (fail)
  refine Calls.mono (P2.out _) ?_
  clear P2
  rintro e V9 ⟨rfl, rfl⟩
  go_wp2_with (fail)
  refine Calls.mono (P3.out _) ?_
  clear P3
  rintro e V9 ⟨rfl, rfl⟩
  have c0 := (BS.out 0 _ rfl).1
  have c1 := (BS.out 1 _ rfl).1
  have c2 := (BS.out 2 _ rfl).1
  have c3 := (BS.out 3 _ rfl).1
  have c4 := (BS.out 4 _ rfl).1
  have c5 := (BS.out 5 _ rfl).1
  go_wp2_with (fail)
  refine Calls.mono (M1.out _) ?_
  clear M1
  rintro e V4 ⟨rfl, h⟩
  have BS : Hid (Cells V4 bs [.int .i64 sk, .int .i64 sr, .int .i64 sx, .int .i64 sy, .int .i64 sz, .slice none 0 0]) := Cells.step BS.out h
  have hD : Hid _ := b_step hD.out h
  clear h c0 c1 c2 c3 c4 c5
  go_upto_region 7 with fail
  obtain ⟨V5, hN⟩ : ∃ X : World, X = V4.alloc (.cells #[.int .i64 a, .int .i64 mx, .int .i64 my, .int .i64 mz] 36) := ⟨_, rfl⟩
  obtain ⟨bm, hbb⟩ : ∃ b, b = V4.heap.size := ⟨_, rfl⟩
  have h : Below V4.heap.size V4 V5 := by rw [hN]; exact n_after _ _
  have BM : Hid (Cells V5 bm [.int .i64 a, .int .i64 mx, .int .i64 my, .int .i64 mz]) := by rw [hN, hbb]; exact Cells.new V4 [.int .i64 a, .int .i64 mx, .int .i64 my, .int .i64 mz] _
  rw [← hN, ← hbb]
  clear hN
  have BS : Hid (Cells V5 bs [.int .i64 sk, .int .i64 sr, .int .i64 sx, .int .i64 sy, .int .i64 sz, .slice none 0 0]) := Cells.step BS.out h
  have hD : Hid _ := b_step hD.out h
  clear h hbb
  have c0 := (BS.out 0 _ rfl).1
  have c1 := (BS.out 1 _ rfl).1
  have c2 := (BS.out 2 _ rfl).1
  have c3 := (BS.out 3 _ rfl).1
  have c4 := (BS.out 4 _ rfl).1
  have c5 := (BS.out 5 _ rfl).1
  go_wp2_with (fail)
  refine Calls.mono (M2.out _) ?_
  clear M2
  rintro e V6 ⟨rfl, h⟩
  have BS : Hid (Cells V6 bs [.int .i64 sk, .int .i64 sr, .int .i64 sx, .int .i64 sy, .int .i64 sz, .slice none 0 0]) := Cells.step BS.out h
  have BM : Hid (Cells V6 bm [.int .i64 a, .int .i64 mx, .int .i64 my, .int .i64 mz]) := Cells.step BM.out h
  have hD : Hid _ := b_step hD.out h
  clear h c0 c1 c2 c3 c4 c5
  go_upto_region 8 with fail
  obtain ⟨V7, hN⟩ : ∃ X : World, X = V6.alloc (.cells #[.int .i64 b, .int .i64 nx, .int .i64 ny, .int .i64 nz] 36) := ⟨_, rfl⟩
  obtain ⟨bn, hbb⟩ : ∃ b, b = V6.heap.size := ⟨_, rfl⟩
  have h : Below V6.heap.size V6 V7 := by rw [hN]; exact n_after _ _
  have BN : Hid (Cells V7 bn [.int .i64 b, .int .i64 nx, .int .i64 ny, .int .i64 nz]) := by rw [hN, hbb]; exact Cells.new V6 [.int .i64 b, .int .i64 nx, .int .i64 ny, .int .i64 nz] _
  rw [← hN, ← hbb]
  clear hN
  have BS : Hid (Cells V7 bs [.int .i64 sk, .int .i64 sr, .int .i64 sx, .int .i64 sy, .int .i64 sz, .slice none 0 0]) := Cells.step BS.out h
  have BM : Hid (Cells V7 bm [.int .i64 a, .int .i64 mx, .int .i64 my, .int .i64 mz]) := Cells.step BM.out h
  have hD : Hid _ := b_step hD.out h
  clear h hbb
  have c0 := (BS.out 0 _ rfl).1
  have c1 := (BS.out 1 _ rfl).1
  have c2 := (BS.out 2 _ rfl).1
  have c3 := (BS.out 3 _ rfl).1
  have c4 := (BS.out 4 _ rfl).1
  have c5 := (BS.out 5 _ rfl).1
  go_upto_region 9 with fail
  obtain ⟨V8, hN⟩ : ∃ X : World, X = V7.alloc (.cells #[.int .i64 sk, .int .i64 sr, .int .i64 sx, .int .i64 sy, .int .i64 sz, .slice none 0 0] 26) := ⟨_, rfl⟩
  obtain ⟨bt, hbb⟩ : ∃ b, b = V7.heap.size := ⟨_, rfl⟩
  have h : Below V7.heap.size V7 V8 := by rw [hN]; exact n_after _ _
  have BT : Hid (Cells V8 bt [.int .i64 sk, .int .i64 sr, .int .i64 sx, .int .i64 sy, .int .i64 sz, .slice none 0 0]) := by rw [hN, hbb]; exact Cells.new V7 [.int .i64 sk, .int .i64 sr, .int .i64 sx, .int .i64 sy, .int .i64 sz, .slice none 0 0] _
  rw [← hN, ← hbb]
  clear hN
  have hlt : w0.heap.size ≤ bt := by have := hD.out.size; omega
  have hnm : bm ≠ bt := by have : bm < V7.heap.size := World.block_lt_of_cell? _ _ (BM.out 0 _ rfl).1; omega
  have hnn : bn ≠ bt := by have : bn < V7.heap.size := World.block_lt_of_cell? _ _ (BN.out 0 _ rfl).1; omega
  have BM : Hid (Cells V8 bm [.int .i64 a, .int .i64 mx, .int .i64 my, .int .i64 mz]) := Cells.step BM.out h
  have BN : Hid (Cells V8 bn [.int .i64 b, .int .i64 nx, .int .i64 ny, .int .i64 nz]) := Cells.step BN.out h
  have hD : Hid _ := b_step hD.out h
  clear h hbb c0 c1 c2 c3 c4 c5 BS
  have c1 := (BT.out 1 _ rfl).1
  have f1 := (BT.out 1 _ rfl).2
  go_upto_region 10 with fail
  have BT : Hid (Cells (V8.setCell ⟨bt, 1, none⟩ (.int .i64 16384)) bt [.int .i64 sk, .int .i64 16384, .int .i64 sx, .int .i64 sy, .int .i64 sz, .slice none 0 0]) := Cells.set BT.out 1 (.int .i64 16384) (by simp)
  have BM : Hid (Cells (V8.setCell ⟨bt, 1, none⟩ (.int .i64 16384)) bm [.int .i64 a, .int .i64 mx, .int .i64 my, .int .i64 mz]) := Cells.other BM.out hnm _ _
  have BN : Hid (Cells (V8.setCell ⟨bt, 1, none⟩ (.int .i64 16384)) bn [.int .i64 b, .int .i64 nx, .int .i64 ny, .int .i64 nz]) := Cells.other BN.out hnn _ _
  have hD : Hid (Below w0.heap.size w0 (V8.setCell ⟨bt, 1, none⟩ (.int .i64 16384))) := hD.out.setCell hlt _
  generalize V8.setCell ⟨bt, 1, none⟩ (.int .i64 16384) = V9 at *
  clear c1 f1
  have c0 := (BT.out 0 _ rfl).1
  have c1 := (BT.out 1 _ rfl).1
  have c2 := (BT.out 2 _ rfl).1
  have c3 := (BT.out 3 _ rfl).1
  have c4 := (BT.out 4 _ rfl).1
  have c5 := (BT.out 5 _ rfl).1
  go_wp2_with (fail)
  refine Calls.mono (M3.out _) ?_
  clear M3
  rintro e Va ⟨rfl, h⟩
  have BM : Hid (Cells Va bm [.int .i64 a, .int .i64 mx, .int .i64 my, .int .i64 mz]) := Cells.step BM.out h
  have BN : Hid (Cells Va bn [.int .i64 b, .int .i64 nx, .int .i64 ny, .int .i64 nz]) := Cells.step BN.out h
  have hD : Hid _ := b_step hD.out h
  clear h c0 c1 c2 c3 c4 c5
  go_upto_region 11 with fail
  obtain ⟨Vb, hN⟩ : ∃ X : World, X = Va.alloc (.cells #[.int .i64 a, .int .i64 ox, .int .i64 oy, .int .i64 oz] 36) := ⟨_, rfl⟩
  obtain ⟨bo, hbb⟩ : ∃ b, b = Va.heap.size := ⟨_, rfl⟩
  have h : Below Va.heap.size Va Vb := by rw [hN]; exact n_after _ _
  have BO : Hid (Cells Vb bo [.int .i64 a, .int .i64 ox, .int .i64 oy, .int .i64 oz]) := by rw [hN, hbb]; exact Cells.new Va [.int .i64 a, .int .i64 ox, .int .i64 oy, .int .i64 oz] _
  rw [← hN, ← hbb]
  clear hN
  have BM : Hid (Cells Vb bm [.int .i64 a, .int .i64 mx, .int .i64 my, .int .i64 mz]) := Cells.step BM.out h
  have BN : Hid (Cells Vb bn [.int .i64 b, .int .i64 nx, .int .i64 ny, .int .i64 nz]) := Cells.step BN.out h
  have hD : Hid _ := b_step hD.out h
  clear h hbb
  have m1 := (BM.out 1 _ rfl).1
  have m2 := (BM.out 2 _ rfl).1
  have m3 := (BM.out 3 _ rfl).1
  have n1 := (BN.out 1 _ rfl).1
  have n2 := (BN.out 2 _ rfl).1
  have n3 := (BN.out 3 _ rfl).1
  have o1 := (BO.out 1 _ rfl).1
  have o2 := (BO.out 2 _ rfl).1
  have o3 := (BO.out 3 _ rfl).1
  have q0 : decide (mx ≤ nx) = true := decide_eq_true i1
  have q1 : decide (my ≤ ny) = true := decide_eq_true i2
  have q2 : decide (mz ≤ nz) = true := decide_eq_true i3
  have q3 : decide (mx ≤ ox) = true := decide_eq_true j1
  have q4 : decide (my ≤ oy) = true := decide_eq_true j2
  have q5 : decide (mz ≤ oz) = true := decide_eq_true j3
  clear i1 i2 i3 j1 j2 j3
  go_wp2_with (fail)
  go_ret
  exact ⟨rfl, hD.out⟩

/-! ### The row's step, after the guide's template -/
set_option maxRecDepth 100000 in
theorem lifted (os : Os) (started : os.Started) (H : Type) (enc : TypeId × Value → H) :
    ReturnsInHanded {} Try.checked os 7 .any (Rows.shapeHeavySpec.pre6 enc Try.prog Try.f7 Rows.shapeHeavyRow.domain false) (Rows.shapeHeavySpec.post enc Try.prog Try.f7 false true false false) := by
  refine returnsInHanded_of_change (C := Try.checked) own started (by kernel_rfl) Try.func7
    (ChangeSpec.witness6 (enc := enc) (C := Try.checked) false ⟨#[], #[.agg #[.int .i64 0, .int .i64 0, .int .i64 0, .int .i64 0, .int .i64 0, .slice none 0 0], .int .i64 0, .int .i64 0], []⟩ 8 (by kernel_rfl) (by kernel_rfl) (by kernel_rfl) (by kernel_rfl)) ?_
  intro W base args ds gs before hval0 hW hcnd _
  have hval : ∀ (j : Nat) t v, Try.f7.params[j]? = some t → args[j]? = some v → Value.okWide Try.prog W .any base t v := hval0
  have hW' := hW
  obtain ⟨p, q, hA0, hV, rfl, hfz, hnd⟩ := hW
  have hA : DataW.TrodAll enc Try.prog W 0 (fun _ => true) true Try.f7.params.toList args.toList ds p := hA0
  rw [Try.params7] at hA hval
  obtain ⟨v0, vs0, d0, ds0, p0, q0, hargs, rfl, rfl, h0, r0⟩ := trodAll_cons hA
  obtain ⟨v1, vs1, d1, ds1, p1, q1, rfl, rfl, rfl, h1, r1⟩ := trodAll_cons r0
  obtain ⟨v2, vs2, d2, ds2, p2, q2, rfl, rfl, rfl, h2, r2⟩ := trodAll_cons r1
  obtain ⟨rfl, rfl, rfl⟩ := trodAll_nil r2
  obtain rfl : args = #[v0, v1, v2] := by cases args; simp_all
  obtain ⟨rfl, rfl⟩ := trodVars_none hV
  have k0 := h0
  have lt0 : ∀ x ∈ p0, x.block < W.heap.size := by obtain ⟨m, hm⟩ := k0; exact DataW.trod_lt m _ _ _ hm
  obtain ⟨k, rr, x, y, z, o, n, c, rfl, wk, wr, wx, wy, wz⟩ := open_raw (hval 0 42 v0 rfl rfl) h0
  obtain ⟨a1, rfl, rfl, rfl, w1⟩ := open_int Try.underlying3 (hval 1 3 v1 rfl rfl) h1
  obtain ⟨a2, rfl, rfl, rfl, w2⟩ := open_int Try.underlying3 (hval 2 3 v2 rfl rfl) h2
  have bk := bounds_i64 wk
  have br := bounds_i64 wr
  have bx := bounds_i64 wx
  have by_ := bounds_i64 wy
  have bz := bounds_i64 wz
  have b1 := bounds_i64 w1
  have b2 := bounds_i64 w2
  clear hA0 hval0
  refine (walk k rr x y z o n c a1 a2 W (by omega) (by omega) (by omega) (by omega) (by omega) (by omega) (by omega)).mono fun e W' ⟨he, bel⟩ => ?_
  subst he
  exact ⟨_, rfl, _, _, _, [], _, [], hW', trodAll_mk1 (shut_bool Try.underlying4 _), (trodAll_cons_mk (Below.trod laidOut (by kernel_rfl) (of_decide_eq_true (by kernel_rfl)) k0 bel lt0) (trodAll_cons_mk (shut_int Try.underlying3 w1) (trodAll_cons_mk (shut_int Try.underlying3 w2) trodAll_mk0))), rfl, bel.frame _, fun h => by cases h⟩

theorem over : Rows.shapeHeavyRow.holds Try.pinned (OpenSpec.ofChange Rows.shapeHeavySpec) :=
  OpenClaim.holds_of_wide 7 Try.f7 rfl rfl rfl rfl rfl rfl rfl ⟨rfl, rfl, rfl, rfl, rfl⟩ rfl rfl rfl rfl rfl (by kernel_rfl) Try.func7 (by kernel_rfl)
    (of_decide_eq_true (by kernel_rfl)) (by unfold Func.isWrapper; first | (rw [if_pos (by decide +kernel)]; kernel_rfl) | (rw [if_neg (by decide +kernel)]; exact ⟨rfl, rfl⟩))
    (fun os started H enc _ => lifted os started H enc)

end shapeHeavy

theorem shapeHeavy_holds : Rows.ShapeHeavySaid := shapeHeavy.over
#print axioms shapeHeavy_holds
end Go.Proofs.Ytepepnjpceljiaa
