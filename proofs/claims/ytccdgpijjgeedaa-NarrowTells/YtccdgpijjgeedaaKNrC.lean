/- Package narrow: reaches, gaps, what may be, long directions. -/
import Derived.Test.YtccdgpijjgeedaaKNrB
namespace Go.Proofs.Ytccdgpijjgeedaa
open Go.RowKit Go.Shelf
open Fx (isq isq_is isq_of)
set_option linter.unusedVariables false

theorem lng_far {p : Pt} (h : p.lng ≠ Pt.O) : p.lng.inB 1048576 = true ∧ 524288 ≤ dn p.lng := by
  rcases lng_is p with e | ⟨h1, h2⟩
  · exact absurd e h
  · refine ⟨h1, ?_⟩
    generalize p.lng = n at *
    have h9 := (Pt.inB_no n 524288).1 h2
    obtain ⟨k0, k1, k2⟩ := dn_is n
    apply Int.not_lt.1
    intro hlt
    have hs : (dn n + 1) * (dn n + 1) ≤ 524288 * 524288 := Int.mul_le_mul (by omega) (by omega) (by omega) (by decide)
    have q1 := sq0 n.x
    have q2 := sq0 n.y
    have q3 := sq0 n.z
    have big : ∀ x : Int, ¬ (-524288 ≤ x ∧ x ≤ 524288) → 524288 * 524288 < x * x := fun x hx => by
      rcases Int.lt_or_le 0 x with h | h
      · have := Int.mul_le_mul (show (524289 : Int) ≤ x by omega) (show (524289 : Int) ≤ x by omega) (by decide) (by omega)
        omega
      · have := Int.mul_le_mul (show (524289 : Int) ≤ -x by omega) (show (524289 : Int) ≤ -x by omega) (by decide) (by omega)
        rw [Int.neg_mul_neg] at this
        omega
    unfold Pt.dot at k2
    by_cases hx : -524288 ≤ n.x ∧ n.x ≤ 524288
    · by_cases hy : -524288 ≤ n.y ∧ n.y ≤ 524288
      · have := big n.z (fun hz => h9 ⟨hx, hy, hz⟩); omega
      · have := big n.y hy; omega
    · have := big n.x hx; omega

set_option maxHeartbeats 2000000 in
set_option maxRecDepth 100000 in
theorem nlong_any (p0 : Pt) (w0 : World) :
    Calls Try.prog 51 #[p0.v] w0 fun e W => e = .returned p0.lng.v ∧ Below w0.heap.size w0 W := by
  have HS : Hid _ := fun w' => short_any p0 w'
  have HX : Hid (∀ q : Pt, ∀ w', Calls Try.prog 26 #[q.v, .int .i64 524288] w' fun e W => e = .returned (.bool (q.inB 524288)) ∧ Below w'.heap.size w' W) := fun q w' => nwithin_any q 524288 w' (by decide) (by decide)
  have HP : Hid (∀ q : Pt, q.inB 524288 = true → ∀ w', Calls Try.prog 77 #[q.v, q.v] w' fun e W => e = .returned q.dbl.v ∧ Below w'.heap.size w' W) := fun q h w' => nplus_any q w' (inB_mono h (by decide))
  have HL : Hid (p0.lng = if p0.short = Pt.O then Pt.O else lngF 20 p0.short) := rfl
  have HI0 := short_in p0
  have bx0 : Hid (Box3 ((w0.alloc (.cells #[.int .i64 p0.x, .int .i64 p0.y, .int .i64 p0.z] 26)).alloc (.cells #[.int .i64 0, .int .i64 0, .int .i64 0] 26)) w0.heap.size p0) := (Box3.new w0 p0.x p0.y p0.z _).step (n_after _ _)
  have bx1 : Hid (Box3 ((w0.alloc (.cells #[.int .i64 p0.x, .int .i64 p0.y, .int .i64 p0.z] 26)).alloc (.cells #[.int .i64 0, .int .i64 0, .int .i64 0] 26)) (w0.heap.size + 1) Pt.O) := by have := Box3.new (w0.alloc (.cells #[.int .i64 p0.x, .int .i64 p0.y, .int .i64 p0.z] 26)) 0 0 0 26; rwa [World.size_alloc] at this
  have hB0 : Hid (Below w0.heap.size w0 ((w0.alloc (.cells #[.int .i64 p0.x, .int .i64 p0.y, .int .i64 p0.z] 26)).alloc (.cells #[.int .i64 0, .int .i64 0, .int .i64 0] 26))) := b_step (n_after w0 _) (n_after _ _)
  generalize p0.short = p at *
  generalize p0.lng = r at *
  obtain ⟨px, py, pz⟩ := p0
  obtain ⟨W0, hW0⟩ : ∃ W0, W0 = ((w0.alloc (.cells #[.int .i64 px, .int .i64 py, .int .i64 pz] 26)).alloc (.cells #[.int .i64 0, .int .i64 0, .int .i64 0] 26)) := ⟨_, rfl⟩
  dsimp only at bx0 bx1 hB0
  rw [← hW0] at bx0 bx1 hB0
  obtain ⟨c0, c1, c2, _, _, _⟩ := bx0.out
  unfold Pt.v at *
  dsimp only at *
  go_enter Try.func51, Try.ntmps51
  go_upto_region 1 with fail
  rw [← hW0]
  clear hW0
  go_wp2_with (fail)
  refine Calls.mono (HS.out _) ?_
  clear HS
  rintro e V ⟨rfl, hb⟩
  have bx0 : Hid (Box3 V w0.heap.size ⟨px, py, pz⟩) := bx0.out.step hb
  have bx2 : Hid (Box3 V (w0.heap.size + 1) Pt.O) := bx1.out.step hb
  have hB2 : Hid _ := b_step hB0.out hb
  clear hb c0 c1 c2 bx1 hB0
  obtain ⟨c0, c1, c2, f0, f1, f2⟩ := bx0.out
  dsimp only at c0 c1 c2
  obtain ⟨sx, sy, sz⟩ := p
  dsimp only at *
  go_upto_region 2 with fail
  have bx1 : Hid (Box3 (set3 V w0.heap.size sx sy sz) w0.heap.size ⟨sx, sy, sz⟩) := bx0.out.set _ _ _
  have bx2 : Hid (Box3 (set3 V w0.heap.size sx sy sz) (w0.heap.size + 1) Pt.O) := bx2.out.other (by omega) _ _ _
  have hB2 : Hid (Below w0.heap.size w0 (set3 V w0.heap.size sx sy sz)) := set3_below hB2.out (Nat.le_refl _) _ _ _
  unfold set3 at bx1 bx2 hB2
  generalize ((V.setCell ⟨w0.heap.size, 0, none⟩ (.int .i64 sx)).setCell ⟨w0.heap.size, 1, none⟩ (.int .i64 sy)).setCell ⟨w0.heap.size, 2, none⟩ (.int .i64 sz) = W1 at *
  clear c0 c1 c2 f0 f1 f2 bx0
  obtain ⟨c0, c1, c2, f0, f1, f2⟩ := bx1.out
  dsimp only at c0 c1 c2
  by_cases hz : (⟨sx, sy, sz⟩ : Pt) = Pt.O
  · have e9 : r = Pt.O := by rw [HL.out, if_pos hz]
    subst e9
    have e3 : sx = 0 ∧ sy = 0 ∧ sz = 0 := by simpa [Pt.O] using hz
    obtain ⟨rfl, rfl, rfl⟩ := e3
    clear HL hz
    obtain ⟨c3, c4, c5, f3, f4, f5⟩ := bx2.out
    simp only [Pt.O] at c3 c4 c5
    go_wp2_with (fail)
    refine bodyPost_ret (v := .agg #[.int .i64 0, .int .i64 0, .int .i64 0]) (by simp [results, Try.results51, go_sem, c3, c4, c5]) rfl ⟨rfl, ?_⟩
    exact set3_below hB2.out (by omega) 0 0 0
  · have HR : Hid (r = lngF 20 ⟨sx, sy, sz⟩) := by show _ = _; rw [HL.out, if_neg hz]
    have HB0 : Hid (Pt.far ⟨sx, sy, sz⟩ (20 - 20)) := far_zero hz
    have hz3 : sx = 0 → sy = 0 → ¬ sz = 0 := fun a b c => hz (by rw [a, b, c]; rfl)
    clear HL hz HI0
    go_cut [7] from 4 (fun s7 wx => s7 = .bool false ∧ wx = W1)
    case first =>
      go_wp2_with (fail)
      all_goals first
        | (exfalso; exact hz3 (by assumption) (by assumption) (by assumption))
        | (go_meet; case rel => exact ⟨rfl, rfl⟩)
    case rest =>
      obtain ⟨rfl, e9⟩ := hcut
      subst e9
      clear hz3 c0 c1 c2 f0 f1 f2
      go_wp2_with (fail)
      go_loopg [] 20 (fun g wr => ∃ q : Pt, Hid (Box3 wr w0.heap.size q) ∧ Hid (Box3 wr (w0.heap.size + 1) Pt.O) ∧ Hid (Below w0.heap.size w0 wr) ∧ g ≤ 20 ∧ Hid (lngF g q = lngF 20 ⟨sx, sy, sz⟩) ∧ Hid (q.far (20 - g)))
      case atStart => exact ⟨_, bx1, bx2, hB2, Nat.le_refl _, rfl, HB0⟩
      case round =>
        clear bx1 bx2 hB2 HB0
        obtain ⟨q, b0, b1, hB, hg, HF, HI⟩ := hrel
        have hG : Hid _ := hg
        clear hg
        obtain ⟨c0, c1, c2, f0, f1, f2⟩ := b0.out
        go_wp2_with (fail)
        refine Calls.mono (HX.out q _) ?_
        rintro e V3 ⟨rfl, hb⟩
        clear c0 c1 c2 f0 f1 f2
        have b0 : Hid _ := b0.out.step hb
        have b1 : Hid _ := b1.out.step hb
        have hB : Hid _ := b_step hB.out hb
        clear hb
        cases hq : q.inB 524288 with
        | true =>
          have h1g := far_lt hq HI.out
          obtain ⟨g', hg'⟩ : ∃ g', gk = g' + 1 := ⟨gk - 1, by omega⟩
          subst hg'
          have HJ1 : Hid _ := lngF_step (g := g') hq
          have HJ2 : Hid (q.dbl.far (20 - g')) := by have h5 := far_dbl HI.out; rwa [show 20 - (g' + 1) + 1 = 20 - g' by have := hG.out; omega] at h5
          have HP2 : Hid _ := HP.out q hq
          clear h1g
          obtain ⟨c0, c1, c2, f0, f1, f2⟩ := b0.out
          go_wp2_with (fail)
          refine Calls.mono (HP2.out _) ?_
          rintro e V4 ⟨rfl, hb⟩
          clear HP2
          have b9 : Hid (Box3 (set3 V4 w0.heap.size q.dbl.x q.dbl.y q.dbl.z) w0.heap.size q.dbl) := (b0.out.step hb).set _ _ _
          have b8 : Hid (Box3 (set3 V4 w0.heap.size q.dbl.x q.dbl.y q.dbl.z) (w0.heap.size + 1) Pt.O) := (b1.out.step hb).other (by omega) _ _ _
          have hB9 : Hid (Below w0.heap.size w0 (set3 V4 w0.heap.size q.dbl.x q.dbl.y q.dbl.z)) := set3_below (b_step hB.out hb) (Nat.le_refl _) _ _ _
          have d0 := c_after hb c0
          have d1 := c_after hb c1
          have d2 := c_after hb c2
          have f0 := f_after hb c0 f0
          have f1 := f_after hb c1 f1
          have f2 := f_after hb c2 f2
          unfold set3 at b9 b8 hB9
          clear hb c0 c1 c2 b0 b1 hB
          go_wp2_with (fail)
          go_roundg g'
          case rel => exact ⟨q.dbl, b9, b8, hB9, by have := hG.out; omega, by show _ = _; rw [← HJ1.out]; exact HF.out, HJ2⟩
          case measure => omega
        | false =>
          have e9 : r = q := by rw [HR.out, ← HF.out, lngF_stop hq]
          subst e9
          obtain ⟨c0, c1, c2, f0, f1, f2⟩ := b0.out
          obtain ⟨c3, c4, c5, f3, f4, f5⟩ := b1.out
          simp only [Pt.O] at c3 c4 c5
          go_wp2_with (fail)
          refine bodyPost_ret (v := .agg #[.int .i64 r.x, .int .i64 r.y, .int .i64 r.z]) (by simp [results, Try.results51, go_sem, c3, c4, c5]) rfl ⟨rfl, ?_⟩
          exact set3_below hB.out (by omega) r.x r.y r.z
end Go.Proofs.Ytccdgpijjgeedaa
