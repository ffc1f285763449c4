/- A body's mass. -/
import Derived.Test.YtiicpdlaaklahaaShK
namespace Go.Proofs.Ytiicpdlaaklahaa
open Go.RowKit Go.Shelf Fx
set_option linter.unusedVariables false

set_option maxHeartbeats 1000000 in
set_option maxRecDepth 100000 in
theorem inertia_ball (b : Nat) (vp va ve : Value) (r m : Int) (w0 : World) (hc : w0.cell? ⟨b, 0, none⟩ = some (.bool false)) (hf : w0.frozen? ⟨b, 0, none⟩ = false) (h0 : 0 ≤ r) (h1 : r ≤ 16384) (m0 : 0 ≤ m) (m1 : m ≤ 1099511627776) (f1 : ∃ o n c, vp = .slice o n c) (f2 : ∃ o n c, va = .slice o n c) (f3 : ∃ o n c, ve = .slice o n c) :
    Calls Try.prog 31 #[.pointer (some ⟨b, 0, none⟩), .int .i64 1, .agg #[vp, va, ve, .int .i64 r], .int .i64 m] w0 fun e W => e = .returned (.agg #[.int .i64 (ballI m (r * 1048576)), .int .i64 (ballI m (r * 1048576)), .int .i64 (ballI m (r * 1048576))]) ∧ Below w0.heap.size w0 W := by
  obtain ⟨o1, n1, c1, rfl⟩ := f1
  obtain ⟨o2, n2, c2, rfl⟩ := f2
  obtain ⟨o3, n3, c3, rfl⟩ := f3
  have hB : Hid (Below w0.heap.size w0 ((w0.alloc (.cells #[.slice o1 n1 c1, .slice o2 n2 c2, .slice o3 n3 c3, .int .i64 r] 31)).alloc (.cells #[.int .i64 0, .int .i64 0, .int .i64 0] 34))) := b_step (n_after w0 _) (n_after _ _)
  have bx : Hid (Box3 ((w0.alloc (.cells #[.slice o1 n1 c1, .slice o2 n2 c2, .slice o3 n3 c3, .int .i64 r] 31)).alloc (.cells #[.int .i64 0, .int .i64 0, .int .i64 0] 34)) (w0.heap.size + 1) Pt.O) := by have := Box3.new (w0.alloc (.cells #[.slice o1 n1 c1, .slice o2 n2 c2, .slice o3 n3 c3, .int .i64 r] 31)) 0 0 0 34; rwa [World.size_alloc] at this
  have HBL : Hid _ := ball_any b (r * 1048576) m ((w0.alloc (.cells #[.slice o1 n1 c1, .slice o2 n2 c2, .slice o3 n3 c3, .int .i64 r] 31)).alloc (.cells #[.int .i64 0, .int .i64 0, .int .i64 0] 34)) (c_after hB.out hc) (f_after hB.out hc hf) (by omega) (by omega) m0 m1
  generalize ballI m (r * 1048576) = n at *
  clear hc hf
  go_enter Try.func31, Try.ntmps31
  go_wp2_with (fail)
  refine Calls.mono HBL.out ?_
  clear HBL
  rintro e V1 ⟨rfl, hb⟩
  have bx := bx.out.step hb
  have hD : Hid _ := b_step hB.out hb
  clear hb hB
  obtain ⟨c0, c1, c2, f0, f1, f2⟩ := bx
  simp only [Pt.O] at c0 c1 c2
  go_wp2_with (fail)
  refine bodyPost_ret (v := .agg #[.int .i64 n, .int .i64 n, .int .i64 n]) (by simp [results, Try.results31, go_sem, c0, c1, c2]) rfl ⟨rfl, ?_⟩
  exact set3_below hD.out (by omega) _ _ _
theorem row_form {w : World} {base : Nat} {v : Value} {L : List Pt} (h : w.ownsRow base 23 3 v L.length (fl3 L)) : ∃ o c, v = .slice o L.length c := by
  obtain ⟨o, c, e, _⟩ := (Lies.of_row h).form
  exact ⟨o, c, e⟩
set_option maxHeartbeats 2000000 in
set_option maxRecDepth 100000 in
theorem mass_of (s : Sh) (pv : Value) (m ix iy iz : Int) (w0 : World) (hv : Lies w0 pv s.pts) (hck : checkP s = 0) (hm0 : 16777216 ≤ m) (hm1 : m ≤ 1099511627776)
    (hI : ∀ (W : World) (b : Nat) (vp va ve : Value), Lies W vp (ptsP s) → (∃ o n c, va = .slice o n c) → (∃ o n c, ve = .slice o n c) → W.cell? ⟨b, 0, none⟩ = some (.bool false) → W.frozen? ⟨b, 0, none⟩ = false → Calls Try.prog 31 #[.pointer (some ⟨b, 0, none⟩), .int .i64 s.kind, .agg #[vp, va, ve, .int .i64 s.radius], .int .i64 m] W fun e W' => e = .returned (.agg #[.int .i64 ix, .int .i64 iy, .int .i64 iz]) ∧ Below W.heap.size W W') :
    Calls Try.prog 13 #[s.v pv, .int .i64 m] w0 fun e W => e = .returned (.tuple #[.agg #[.int .i64 m, .int .i64 (maxI ix 4096), .int .i64 (maxI iy 4096), .int .i64 (maxI iz 4096)], .int .i64 0]) ∧ Below w0.heap.size w0 W := by
  have hB : Hid (Below w0.heap.size w0 ((w0.alloc (.cells #[.int .i64 s.kind, .int .i64 s.radius, .int .i64 s.half.x, .int .i64 s.half.y, .int .i64 s.half.z, pv] 26)).alloc (.cells #[.int .i64 0, .int .i64 0, .int .i64 0, .int .i64 0] 36))) := b_step (n_after w0 _) (n_after _ _)
  have HF : Hid _ := core_any s pv ((w0.alloc (.cells #[.int .i64 s.kind, .int .i64 s.radius, .int .i64 s.half.x, .int .i64 s.half.y, .int .i64 s.half.z, pv] 26)).alloc (.cells #[.int .i64 0, .int .i64 0, .int .i64 0, .int .i64 0] 36)) (hv.below hB.out)
  have B1 : Hid (Cells ((w0.alloc (.cells #[.int .i64 s.kind, .int .i64 s.radius, .int .i64 s.half.x, .int .i64 s.half.y, .int .i64 s.half.z, pv] 26)).alloc (.cells #[.int .i64 0, .int .i64 0, .int .i64 0, .int .i64 0] 36)) w0.heap.size [.int .i64 s.kind, .int .i64 s.radius, .int .i64 s.half.x, .int .i64 s.half.y, .int .i64 s.half.z, pv]) := Cells.step (Cells.new w0 [.int .i64 s.kind, .int .i64 s.radius, .int .i64 s.half.x, .int .i64 s.half.y, .int .i64 s.half.z, pv] _) (n_after _ _)
  have B2 : Hid (Cells ((w0.alloc (.cells #[.int .i64 s.kind, .int .i64 s.radius, .int .i64 s.half.x, .int .i64 s.half.y, .int .i64 s.half.z, pv] 26)).alloc (.cells #[.int .i64 0, .int .i64 0, .int .i64 0, .int .i64 0] 36)) (w0.heap.size + 1) [.int .i64 0, .int .i64 0, .int .i64 0, .int .i64 0]) := by have := Cells.new (w0.alloc (.cells #[.int .i64 s.kind, .int .i64 s.radius, .int .i64 s.half.x, .int .i64 s.half.y, .int .i64 s.half.z, pv] 26)) [.int .i64 0, .int .i64 0, .int .i64 0, .int .i64 0] 36; rwa [World.size_alloc] at this
  have HI : Hid _ := hI
  have HCK : Hid _ := hck
  generalize ptsP s = P at *
  generalize axesP s = A at *
  generalize edgesP s = E at *
  generalize checkP s = C at *
  obtain ⟨k, r, ⟨hx, hy, hz⟩, L⟩ := s
  obtain ⟨o, c, rfl, hlc, hcm, _⟩ := hv.form
  clear hv hI hck
  unfold Sh.v at *
  dsimp only at *
  have hmr : inR m 16777216 1099511627776 = true := decide_eq_true ⟨hm0, hm1⟩
  go_enter Try.func13, Try.ntmps13
  go_wp2_with (fail)
  refine Calls.mono HF.out ?_
  clear HF
  rintro e V ⟨vp, va, ve, _, h⟩
  obtain ⟨rfl, h3⟩ := h HCK.out
  have hb := h3.below
  obtain ⟨o1, c1, rfl⟩ := row_form h3.rp
  obtain ⟨o2, c2, rfl⟩ := row_form h3.ra
  obtain ⟨o3, c3, rfl⟩ := row_form h3.re
  have lp : Hid _ := Lies.of_row h3.rp
  have D1 : Hid (Cells V w0.heap.size [.int .i64 k, .int .i64 r, .int .i64 hx, .int .i64 hy, .int .i64 hz, .slice o L.length c]) := Cells.step B1.out hb
  have D2 : Hid (Cells V (w0.heap.size + 1) [.int .i64 0, .int .i64 0, .int .i64 0, .int .i64 0]) := Cells.step B2.out hb
  have hD : Hid (Below w0.heap.size w0 V) := b_step hB.out hb
  clear B1 B2 hB h3 hb h
  have hsz : w0.heap.size + 1 < V.heap.size := World.block_lt_of_cell? _ _ (D2.out 0 _ rfl).1
  go_upto_region 4 with fail
  obtain ⟨W1, hW1⟩ : ∃ W1 : World, W1 = V.alloc (.cells #[.slice o1 P.length c1, .slice o2 A.length c2, .slice o3 E.length c3, .int .i64 r] 31) := ⟨_, rfl⟩
  have hbW : Below V.heap.size V W1 := by rw [hW1]; exact n_after _ _
  have D6 : Hid (Cells W1 V.heap.size [.slice o1 P.length c1, .slice o2 A.length c2, .slice o3 E.length c3, .int .i64 r]) := by rw [hW1]; exact Cells.new V _ _
  have lp2 : Hid _ := lp.out.below hbW
  have D1 : Hid (Cells W1 w0.heap.size [.int .i64 k, .int .i64 r, .int .i64 hx, .int .i64 hy, .int .i64 hz, .slice o L.length c]) := Cells.step D1.out hbW
  have D2 : Hid (Cells W1 (w0.heap.size + 1) [.int .i64 0, .int .i64 0, .int .i64 0, .int .i64 0]) := Cells.step D2.out hbW
  have hD : Hid (Below w0.heap.size w0 W1) := b_step hD.out hbW
  rw [← hW1]
  clear hW1 hbW lp
  go_wp2_with (fail)
  refine Calls.mono (between_is m 16777216 1099511627776 W1 true hmr) ?_
  rintro e W2 ⟨rfl, rfl⟩
  clear hmr
  go_upto_region 7 with fail
  obtain ⟨W3, hW3⟩ : ∃ W3 : World, W3 = W2.alloc (.cells #[.bool false] 61) := ⟨_, rfl⟩
  obtain ⟨bw, hbw⟩ : ∃ bw, bw = W2.heap.size := ⟨_, rfl⟩
  have hbW : Below W2.heap.size W2 W3 := by rw [hW3]; exact n_after _ _
  have D8 : Hid (Cells W3 bw [.bool false]) := by rw [hW3, hbw]; exact Cells.new W2 _ _
  have D6 : Hid (Cells W3 V.heap.size [.slice o1 P.length c1, .slice o2 A.length c2, .slice o3 E.length c3, .int .i64 r]) := Cells.step D6.out hbW
  have lp3 : Hid _ := lp2.out.below hbW
  have D1 : Hid (Cells W3 w0.heap.size [.int .i64 k, .int .i64 r, .int .i64 hx, .int .i64 hy, .int .i64 hz, .slice o L.length c]) := Cells.step D1.out hbW
  have D2 : Hid (Cells W3 (w0.heap.size + 1) [.int .i64 0, .int .i64 0, .int .i64 0, .int .i64 0]) := Cells.step D2.out hbW
  have hD : Hid (Below w0.heap.size w0 W3) := b_step hD.out hbW
  rw [← hW3, ← hbw]
  clear hW3 hbw hbW lp2
  have s0 := (D1.out 0 _ rfl).1
  have t0 := (D6.out 0 _ rfl).1
  have t1 := (D6.out 1 _ rfl).1
  have t2 := (D6.out 2 _ rfl).1
  have t3 := (D6.out 3 _ rfl).1
  go_wp2_with (fail)
  refine Calls.mono (HI.out W3 bw _ _ _ lp3.out ⟨_, _, _, rfl⟩ ⟨_, _, _, rfl⟩ (D8.out 0 _ rfl).1 (D8.out 0 _ rfl).2) ?_
  rintro e W4 ⟨rfl, hb⟩
  have D8 : Hid (Cells W4 bw [.bool false]) := Cells.step D8.out hb
  have D2 : Hid (Cells W4 (w0.heap.size + 1) [.int .i64 0, .int .i64 0, .int .i64 0, .int .i64 0]) := Cells.step D2.out hb
  have hD : Hid (Below w0.heap.size w0 W4) := b_step hD.out hb
  clear hb s0 t0 t1 t2 t3 HI lp3
  go_wp2_with (fail)
  refine Calls.mono (atLeast_any ix iy iz 4096 W4) ?_
  rintro e W5 ⟨rfl, hb⟩
  have D8 : Hid (Cells W5 bw [.bool false]) := Cells.step D8.out hb
  have D2 : Hid (Cells W5 (w0.heap.size + 1) [.int .i64 0, .int .i64 0, .int .i64 0, .int .i64 0]) := Cells.step D2.out hb
  have hD : Hid (Below w0.heap.size w0 W5) := b_step hD.out hb
  clear hb
  have w8 := (D8.out 0 _ rfl).1
  have hbl : bw < W5.heap.size := World.block_lt_of_cell? _ _ w8
  have hb2 : w0.heap.size + 1 < W5.heap.size := World.block_lt_of_cell? _ _ (D2.out 0 _ rfl).1
  have r0 := (D2.out 0 _ rfl).1
  have r1 := (D2.out 1 _ rfl).1
  have r2 := (D2.out 2 _ rfl).1
  have r3 := (D2.out 3 _ rfl).1
  have f0 := (D2.out 0 _ rfl).2
  have f1 := (D2.out 1 _ rfl).2
  have f2 := (D2.out 2 _ rfl).2
  have f3 := (D2.out 3 _ rfl).2
  go_wp2_with (fail)
  have hX := set4_below hD.out (by omega : w0.heap.size ≤ w0.heap.size + 1) (.int .i64 m) (.int .i64 (maxI ix 4096)) (.int .i64 (maxI iy 4096)) (.int .i64 (maxI iz 4096))
  have BF := Cells.set4 D2.out (.int .i64 m) (.int .i64 (maxI ix 4096)) (.int .i64 (maxI iy 4096)) (.int .i64 (maxI iz 4096))
  generalize hY : set4 W5 (w0.heap.size + 1) (.int .i64 m) (.int .i64 (maxI ix 4096)) (.int .i64 (maxI iy 4096)) (.int .i64 (maxI iz 4096)) = Y at *
  unfold set4 at hY
  rw [hY]
  clear r0 r1 r2 r3 f0 f1 f2 f3 hY
  have BG := Cells.step BF (n_after Y (.cells #[.int .i64 (maxI ix 4096), .int .i64 (maxI iy 4096), .int .i64 (maxI iz 4096)] 34))
  have z0 := (BG 0 _ rfl).1
  have z1 := (BG 1 _ rfl).1
  have z2 := (BG 2 _ rfl).1
  have z3 := (BG 3 _ rfl).1
  exact bodyPost_ret (v := .tuple #[.agg #[.int .i64 m, .int .i64 (maxI ix 4096), .int .i64 (maxI iy 4096), .int .i64 (maxI iz 4096)], .int .i64 0]) (by simp [results, Try.results13, go_sem, z0, z1, z2, z3]) rfl ⟨rfl, b_step hX (n_after _ _)⟩
end Go.Proofs.Ytiicpdlaaklahaa
