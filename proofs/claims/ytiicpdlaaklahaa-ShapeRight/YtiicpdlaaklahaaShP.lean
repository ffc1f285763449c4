/- The mass of balls, capsules and bricks. -/
import Derived.Test.YtiicpdlaaklahaaShO
namespace Go.Proofs.Ytiicpdlaaklahaa
open Go.RowKit Go.Shelf Fx
set_option linter.unusedVariables false

set_option maxHeartbeats 2000000 in
set_option maxRecDepth 100000 in
theorem inertia_box (b : Nat) (k : Int) (vp va ve : Value) (P : List Pt) (r m : Int) (w0 : World) (hk : k ≠ 1) (hv : Lies w0 vp P) (h0 : 0 < P.length) (hl : P.length ≤ 100) (hin : ∀ p ∈ P, p.inB 65536 = true) (hu : Up w0 b) (h4 : 0 ≤ r) (h5 : r ≤ 16384) (m0 : 0 ≤ m) (m1 : m ≤ 1099511627776) (f2 : ∃ o n c, va = .slice o n c) (f3 : ∃ o n c, ve = .slice o n c) :
    Calls Try.prog 31 #[.pointer (some ⟨b, 0, none⟩), .int .i64 k, .agg #[vp, va, ve, .int .i64 r], .int .i64 m] w0 fun e W => e = .returned (.agg #[.int .i64 (boxI m (widths P r).y (widths P r).z), .int .i64 (boxI m (widths P r).z (widths P r).x), .int .i64 (boxI m (widths P r).x (widths P r).y)]) ∧ Below w0.heap.size w0 W := by
  have hw3 : (0 ≤ (widths P r).x ∧ (widths P r).x ≤ 137438953472) ∧ (0 ≤ (widths P r).y ∧ (widths P r).y ≤ 137438953472) ∧ (0 ≤ (widths P r).z ∧ (widths P r).z ≤ 137438953472) := by
    obtain ⟨i1, i2, i3⟩ := low_high_in P 65536 hin h0 P.length (Nat.le_refl _)
    rw [Pt.inB_iff] at i1 i2
    have a := hw_in (r := r) i1.1.1 i2.1.2 i3.1 h4 h5
    have b := hw_in (r := r) i1.2.1.1 i2.2.1.2 i3.2.1 h4 h5
    have c := hw_in (r := r) i1.2.2.1 i2.2.2.2 i3.2.2 h4 h5
    unfold widths
    dsimp only
    omega
  obtain ⟨o1, c1, rfl, _⟩ := hv.form
  obtain ⟨o2, n2, c2, rfl⟩ := f2
  obtain ⟨o3, n3, c3, rfl⟩ := f3
  have hB : Hid (Below w0.heap.size w0 ((w0.alloc (.cells #[.slice o1 P.length c1, .slice o2 n2 c2, .slice o3 n3 c3, .int .i64 r] 31)).alloc (.cells #[.int .i64 0, .int .i64 0, .int .i64 0] 34))) := b_step (n_after w0 _) (n_after _ _)
  have bx : Hid (Box3 ((w0.alloc (.cells #[.slice o1 P.length c1, .slice o2 n2 c2, .slice o3 n3 c3, .int .i64 r] 31)).alloc (.cells #[.int .i64 0, .int .i64 0, .int .i64 0] 34)) (w0.heap.size + 1) Pt.O) := by have := Box3.new (w0.alloc (.cells #[.slice o1 P.length c1, .slice o2 n2 c2, .slice o3 n3 c3, .int .i64 r] 31)) 0 0 0 34; rwa [World.size_alloc] at this
  have HHW : Hid _ := halfWidths_any (.slice o1 P.length c1) (.slice o2 n2 c2) (.slice o3 n3 c3) P r ((w0.alloc (.cells #[.slice o1 P.length c1, .slice o2 n2 c2, .slice o3 n3 c3, .int .i64 r] 31)).alloc (.cells #[.int .i64 0, .int .i64 0, .int .i64 0] 34)) (hv.below hB.out) h0 hl hin h4 h5 ⟨_, _, _, rfl⟩ ⟨_, _, _, rfl⟩
  have HU : Hid _ := hu.step hB.out
  have HBX : Hid (∀ W, Up W b → Calls Try.prog 57 #[.pointer (some ⟨b, 0, none⟩), (widths P r).v, .int .i64 m] W fun e W' => e = .returned (.agg #[.int .i64 (boxI m (widths P r).y (widths P r).z), .int .i64 (boxI m (widths P r).z (widths P r).x), .int .i64 (boxI m (widths P r).x (widths P r).y)]) ∧ Below W.heap.size W W') := fun W hu => box_any b (widths P r) m W hu hw3.1 hw3.2.1 hw3.2.2 m0 m1
  generalize boxI m (widths P r).y (widths P r).z = ix at *
  generalize boxI m (widths P r).z (widths P r).x = iy at *
  generalize boxI m (widths P r).x (widths P r).y = iz at *
  generalize widths P r = wd at *
  have hk' : (k == 1) = false := beq_eq_false_iff_ne.2 hk
  clear hv hu hw3 hin
  unfold Pt.v at *
  go_enter Try.func31, Try.ntmps31
  go_wp2_with (fail)
  refine Calls.mono HHW.out ?_
  clear HHW
  rintro e V1 ⟨rfl, hb⟩
  have b1 : Hid _ := bx.out.step hb
  have hD : Hid _ := b_step hB.out hb
  have U1 : Hid _ := HU.out.step hb
  clear hb hB bx HU
  go_wp2_with (fail)
  refine Calls.mono (HBX.out V1 U1.out) ?_
  clear HBX U1
  rintro e V2 ⟨rfl, hb⟩
  obtain ⟨c0, c1, c2, f0, f1, f2⟩ := b1.out.step hb
  have hD2 : Hid _ := b_step hD.out hb
  clear hb hD b1
  simp only [Pt.O] at c0 c1 c2
  go_wp2_with (fail)
  refine bodyPost_ret (v := .agg #[.int .i64 ix, .int .i64 iy, .int .i64 iz]) (by simp [results, Try.results31, go_sem, c0, c1, c2]) rfl ⟨rfl, ?_⟩
  exact set3_below hD2.out (by omega) _ _ _
/-- Inertia of a shape that is no hull. -/
def iner (s : Sh) (m : Int) : Pt := if s.kind = 1 then ⟨ballI m (s.radius * 1048576), ballI m (s.radius * 1048576), ballI m (s.radius * 1048576)⟩ else ⟨boxI m (widths (ptsP s) s.radius).y (widths (ptsP s) s.radius).z, boxI m (widths (ptsP s) s.radius).z (widths (ptsP s) s.radius).x, boxI m (widths (ptsP s) s.radius).x (widths (ptsP s) s.radius).y⟩
/-- A shape whose numbers are right, and no hull. -/
structure Small (s : Sh) : Prop where
  k : s.kind = 1 ∨ s.kind = 2 ∨ s.kind = 3
  r0 : 1 ≤ s.radius
  r1 : s.radius ≤ 16384
  x : 1 ≤ s.half.x ∧ s.half.x ≤ 65536
  y : 1 ≤ s.half.y ∧ s.half.y ≤ 65536
  z : 1 ≤ s.half.z ∧ s.half.z ≤ 65536
theorem Small.check {s : Sh} (h : Small s) : checkP s = 0 := by
  obtain ⟨k, r0, r1, x, y, z⟩ := h
  have hf : formP s = true := by
    unfold formP inR halfOk
    rcases k with k | k | k
    · rw [if_pos k]; exact decide_eq_true ⟨r0, r1⟩
    · rw [if_neg (by omega), if_pos k, decide_eq_true (p := 1 ≤ s.radius ∧ s.radius ≤ 16384) ⟨r0, r1⟩, decide_eq_true x]; rfl
    · rw [if_neg (by omega), if_neg (by omega), if_pos k, decide_eq_true (p := 0 ≤ s.radius ∧ s.radius ≤ 16384) ⟨by omega, r1⟩, decide_eq_true x, decide_eq_true y, decide_eq_true z]; rfl
  unfold checkP
  rw [hf, if_pos rfl, if_neg (by omega)]
theorem Small.pts {s : Sh} (h : Small s) (hk : s.kind ≠ 1) : 0 < (ptsP s).length ∧ (ptsP s).length ≤ 100 ∧ ∀ p ∈ ptsP s, p.inB 65536 = true := by
  obtain ⟨k, r0, r1, x, y, z⟩ := h
  unfold ptsP
  rcases k with k | k | k
  · exact absurd k hk
  · rw [if_neg (by omega), if_pos k]
    refine ⟨by simp, by simp, fun p hp => ?_⟩
    simp only [List.mem_cons, List.not_mem_nil, or_false] at hp
    rw [Pt.inB_iff]
    rcases hp with rfl | rfl <;> (dsimp only; omega)
  · rw [if_neg (by omega), if_neg (by omega), if_pos k]
    refine ⟨by simp [cornersP], by simp [cornersP], fun p hp => ?_⟩
    simp only [cornersP, List.mem_cons, List.not_mem_nil, or_false] at hp
    rw [Pt.inB_iff]
    rcases hp with rfl | rfl | rfl | rfl | rfl | rfl | rfl | rfl <;> (dsimp only; omega)
set_option maxHeartbeats 1000000 in
theorem mass_small (s : Sh) (pv : Value) (m : Int) (w0 : World) (hs : Small s) (hv : Lies w0 pv s.pts) (hm0 : 16777216 ≤ m) (hm1 : m ≤ 1099511627776) :
    Calls Try.prog 13 #[s.v pv, .int .i64 m] w0 fun e W => e = .returned (.tuple #[.agg #[.int .i64 m, .int .i64 (maxI (iner s m).x 4096), .int .i64 (maxI (iner s m).y 4096), .int .i64 (maxI (iner s m).z 4096)], .int .i64 0]) ∧ Below w0.heap.size w0 W := by
  refine mass_of s pv m _ _ _ w0 hv hs.check hm0 hm1 ?_
  intro W b vp va ve hp h2 h3 hc hf
  by_cases hk : s.kind = 1
  · have e : iner s m = ⟨ballI m (s.radius * 1048576), ballI m (s.radius * 1048576), ballI m (s.radius * 1048576)⟩ := by unfold iner; rw [if_pos hk]
    rw [e, hk]
    exact inertia_ball b vp va ve s.radius m W hc hf (by have := hs.r0; omega) hs.r1 (by omega) hm1 (by obtain ⟨o, c, e, _⟩ := hp.form; exact ⟨o, _, c, e⟩) h2 h3
  · have e : iner s m = ⟨boxI m (widths (ptsP s) s.radius).y (widths (ptsP s) s.radius).z, boxI m (widths (ptsP s) s.radius).z (widths (ptsP s) s.radius).x, boxI m (widths (ptsP s) s.radius).x (widths (ptsP s) s.radius).y⟩ := by unfold iner; rw [if_neg hk]
    obtain ⟨p1, p2, p3⟩ := hs.pts hk
    rw [e]
    exact inertia_box b s.kind vp va ve (ptsP s) s.radius m W hk hp p1 p2 p3 ⟨hc, hf⟩ (by have := hs.r0; omega) hs.r1 (by omega) hm1 h2 h3
theorem hw_mono (lo hi : Int) {r q : Int} (h : r ≤ q) : hw lo hi r ≤ hw lo hi q := by unfold hw; omega
theorem boxI_mono {m n a b c d : Int} (m0 : 0 ≤ m) (mn : m ≤ n) (a0 : 0 ≤ a) (ac : a ≤ c) (b0 : 0 ≤ b) (bd : b ≤ d) : boxI m a b ≤ boxI n c d := by
  have h1 := sqM_mono m0 mn a0 ac
  have h2 := sqM_mono m0 mn b0 bd
  unfold boxI
  omega
/-- A heavier or wider one has no less. -/
theorem iner_mono (s : Sh) (q m n : Int) (hs : Small s) (hq : s.radius ≤ q) (m0 : 0 ≤ m) (mn : m ≤ n) :
    (iner s m).x ≤ (iner ⟨s.kind, q, s.half, s.pts⟩ n).x ∧ (iner s m).y ≤ (iner ⟨s.kind, q, s.half, s.pts⟩ n).y ∧ (iner s m).z ≤ (iner ⟨s.kind, q, s.half, s.pts⟩ n).z := by
  have hr := hs.r0
  by_cases hk : s.kind = 1
  · have h := sqM_mono m0 mn (show 0 ≤ s.radius * 1048576 by omega) (show s.radius * 1048576 ≤ q * 1048576 by omega)
    unfold iner ballI
    dsimp only
    rw [if_pos hk, if_pos hk]
    dsimp only
    omega
  · obtain ⟨p1, p2, p3⟩ := hs.pts hk
    obtain ⟨i1, i2, i3⟩ := low_high_in (ptsP s) 65536 p3 p1 (ptsP s).length (Nat.le_refl _)
    rw [Pt.inB_iff] at i1 i2
    have a := hw_in (r := s.radius) i1.1.1 i2.1.2 i3.1 (by omega) hs.r1
    have b := hw_in (r := s.radius) i1.2.1.1 i2.2.1.2 i3.2.1 (by omega) hs.r1
    have c := hw_in (r := s.radius) i1.2.2.1 i2.2.2.2 i3.2.2 (by omega) hs.r1
    have ep : ptsP ⟨s.kind, q, s.half, s.pts⟩ = ptsP s := rfl
    unfold iner
    dsimp only
    rw [if_neg hk, if_neg hk, ep]
    unfold widths
    dsimp only
    exact ⟨boxI_mono m0 mn b.1 (hw_mono _ _ hq) c.1 (hw_mono _ _ hq), boxI_mono m0 mn c.1 (hw_mono _ _ hq) a.1 (hw_mono _ _ hq), boxI_mono m0 mn a.1 (hw_mono _ _ hq) b.1 (hw_mono _ _ hq)⟩
theorem maxI_mono {a b n : Int} (h : a ≤ b) : maxI a n ≤ maxI b n := by unfold maxI; split <;> split <;> omega
end Go.Proofs.Ytiicpdlaaklahaa
