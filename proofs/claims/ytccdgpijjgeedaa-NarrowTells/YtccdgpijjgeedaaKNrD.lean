/- Package narrow: gaps, what may be, reaches. -/
import Derived.Test.YtccdgpijjgeedaaKNrC
namespace Go.Proofs.Ytccdgpijjgeedaa
open Go.RowKit Go.Shelf
set_option linter.unusedVariables false

def coreA (pv av ev : Value) (r : Int) : Value := .agg #[pv, av, ev, .int .i64 r]
theorem Cells4.new (w : World) (a b c : Value) (r : Int) (t : TypeId) : (w.alloc (.cells #[a, b, c, .int .i64 r] t)).cell? ⟨w.heap.size, 0, none⟩ = some a ∧ (w.alloc (.cells #[a, b, c, .int .i64 r] t)).cell? ⟨w.heap.size, 1, none⟩ = some b ∧ (w.alloc (.cells #[a, b, c, .int .i64 r] t)).cell? ⟨w.heap.size, 2, none⟩ = some c ∧ (w.alloc (.cells #[a, b, c, .int .i64 r] t)).cell? ⟨w.heap.size, 3, none⟩ = some (.int .i64 r) := by simp [go_sem]

set_option maxHeartbeats 4000000 in
set_option maxRecDepth 100000 in
theorem nmay_any (c : Cr) (pv av ev : Value) (w0 : World) (hp : Lies w0 pv c.P) (ha : Lies w0 av c.A) (he : Lies w0 ev c.E) :
    Calls Try.prog 20 #[coreA pv av ev c.r] w0 fun e W => e = .returned (.bool (mayC c)) ∧ Below w0.heap.size w0 W := by
  obtain ⟨P, A, E, r⟩ := c
  dsimp only at *
  obtain ⟨o, cap, rfl, hlc, hcm, _⟩ := hp.form
  obtain ⟨o2, cap2, rfl, _, _, _⟩ := ha.form
  obtain ⟨o3, cap3, rfl, _, _, _⟩ := he.form
  have H1 : Hid _ := fun w' => nbetween_any (P.length : Int) 1 32 w'
  have H2 : Hid _ := fun (w' : World) (h : Below w0.heap.size w0 w') => nall_any P 16777216 _ w' (hp.below h) (by decide) (by decide)
  have H3 : Hid _ := fun (w' : World) (h : Below w0.heap.size w0 w') => ndir_any A _ w' (ha.below h)
  have H4 : Hid _ := fun (w' : World) (h : Below w0.heap.size w0 w') => ndir_any E _ w' (he.below h)
  have H5 : Hid _ := fun w' => nbetween_any r 0 65536 w'
  have HM : Hid (mayC ⟨P, A, E, r⟩ = (decide (1 ≤ P.length ∧ P.length ≤ 32) && P.all (·.inB 16777216) && (decide (A.length ≤ 128) && A.all (·.inB 1048576)) && (decide (E.length ≤ 128) && E.all (·.inB 1048576)) && decide (0 ≤ r ∧ r ≤ 65536))) := rfl
  have e1 : decide (1 ≤ (P.length : Int) ∧ (P.length : Int) ≤ 32) = decide (1 ≤ P.length ∧ P.length ≤ 32) := by simp only [decide_eq_decide]; omega
  rw [e1] at H1
  clear hp ha he e1
  generalize decide (1 ≤ P.length ∧ P.length ≤ 32) = k1 at *
  generalize P.all (·.inB 16777216) = k2 at *
  generalize (decide (A.length ≤ 128) && A.all (·.inB 1048576)) = k3 at *
  generalize (decide (E.length ≤ 128) && E.all (·.inB 1048576)) = k4 at *
  generalize decide (0 ≤ r ∧ r ≤ 65536) = k5 at *
  unfold coreA at *
  go_enter Try.func20, Try.ntmps20
  obtain ⟨V, hV⟩ : ∃ V, V = w0.alloc (.cells #[.slice o P.length cap, .slice o2 A.length cap2, .slice o3 E.length cap3, .int .i64 r] 24) := ⟨_, rfl⟩
  obtain ⟨cb, hcb⟩ : ∃ b, b = w0.heap.size := ⟨_, rfl⟩
  have HB : Hid (Below w0.heap.size w0 V) := by show Below _ _ _; rw [hV]; exact n_after _ _
  have HC : Hid _ := Cells4.new w0 (.slice o P.length cap) (.slice o2 A.length cap2) (.slice o3 E.length cap3) r 24
  rw [← hV, ← hcb] at HC
  go_upto_region 1 with fail
  rw [← hV, ← hcb]
  clear hV hcb
  have q0 := HC.out.1
  go_wp2_with (fail)
  refine Calls.mono (H1.out _) ?_
  rintro e V1 ⟨rfl, rfl⟩
  cases k1 with
  | false =>
    go_wp2_with (fail)
    go_ret
    exact ⟨by rw [HM.out]; rfl, HB.out⟩
  | true =>
    go_wp2_with (fail)
    refine Calls.mono (H2.out _ HB.out) ?_
    rintro e V2 ⟨rfl, hb⟩
    have q1 := c_after hb HC.out.2.1
    have q2 := c_after hb HC.out.2.2.1
    have q3 := c_after hb HC.out.2.2.2
    have HB : Hid _ := b_step HB.out hb
    clear hb q0 HC
    cases k2 with
    | false =>
      go_wp2_with (fail)
      go_ret
      exact ⟨by rw [HM.out]; rfl, HB.out⟩
    | true =>
      go_wp2_with (fail)
      refine Calls.mono (H3.out _ HB.out) ?_
      rintro e V3 ⟨rfl, hb⟩
      have q2 := c_after hb q2
      have q3 := c_after hb q3
      have HB : Hid _ := b_step HB.out hb
      clear hb q1
      cases k3 with
      | false =>
        go_wp2_with (fail)
        go_ret
        exact ⟨by rw [HM.out]; rfl, HB.out⟩
      | true =>
        go_wp2_with (fail)
        refine Calls.mono (H4.out _ HB.out) ?_
        rintro e V4 ⟨rfl, hb⟩
        have q3 := c_after hb q3
        have HB : Hid _ := b_step HB.out hb
        clear hb
        cases k4 with
        | false =>
          go_wp2_with (fail)
          go_ret
          exact ⟨by rw [HM.out]; rfl, HB.out⟩
        | true =>
          go_wp2_with (fail)
          refine Calls.mono (H5.out _) ?_
          rintro e V5 ⟨rfl, rfl⟩
          go_wp2_with (fail)
          go_ret
          exact ⟨by rw [HM.out]; rfl, HB.out⟩

theorem gap_rng {P Q : List Pt} {n : Pt} (h0 : 0 < P.length) (h1 : 0 < Q.length) (hP : ∀ p ∈ P, p.inB 16777216 = true) (hQ : ∀ p ∈ Q, p.inB 16777216 = true) (hn : n.inB 1048576 = true) :
    (-52776558133248 ≤ loP n Q ∧ loP n Q ≤ 52776558133248) ∧ (-52776558133248 ≤ hiP n P ∧ hiP n P ≤ 52776558133248) :=
  ⟨loK_in hn hQ (by decide) _ (by omega), hiK_in hn hP (by decide) _ (by omega)⟩
theorem tdiv_rng {a b C : Int} (h : 0 ≤ a ∧ a ≤ C) (hb : 0 < b) : 0 ≤ a.tdiv b ∧ a.tdiv b ≤ C := by
  rw [Int.tdiv_eq_ediv_of_nonneg h.1]
  refine ⟨Int.ediv_nonneg h.1 (by omega), ?_⟩
  have := Int.ediv_le_self (a := a) b h.1
  omega
set_option maxHeartbeats 4000000 in
set_option maxRecDepth 100000 in
theorem ngap_any (a b : Cr) (n : Pt) (pv av ev qv bv fv : Value) (w0 : World) (hp : Lies w0 pv a.P) (ha : Lies w0 av a.A) (he : Lies w0 ev a.E) (hq : Lies w0 qv b.P) (hb : Lies w0 bv b.A) (hf : Lies w0 fv b.E)
    (h0 : 0 < a.P.length) (h1 : 0 < b.P.length) (hP : ∀ p ∈ a.P, p.inB 16777216 = true) (hQ : ∀ p ∈ b.P, p.inB 16777216 = true) (hr : 0 ≤ a.r ∧ a.r ≤ 65536) (hs : 0 ≤ b.r ∧ b.r ≤ 65536) (hn : n.inB 1048576 = true) (hd : 0 < dn n) :
    Calls Try.prog 22 #[coreA pv av ev a.r, coreA qv bv fv b.r, n.v] w0 fun e W => e = .returned (.int .i64 (gapZ a.P b.P a.r b.r n)) ∧ Below w0.heap.size w0 W := by
  obtain ⟨P, A, E, r⟩ := a
  obtain ⟨Q, B, F, s⟩ := b
  dsimp only at *
  obtain ⟨o, cap, rfl, hlc, hcm, _⟩ := hp.form
  obtain ⟨o2, cap2, rfl, _, _, _⟩ := ha.form
  obtain ⟨o3, cap3, rfl, _, _, _⟩ := he.form
  obtain ⟨o4, cap4, rfl, _, _, _⟩ := hq.form
  obtain ⟨o5, cap5, rfl, _, _, _⟩ := hb.form
  obtain ⟨o6, cap6, rfl, _, _, _⟩ := hf.form
  have HE1 : Hid _ := fun (w' : World) (h : Below w0.heap.size w0 w') => nends_any n P _ w' (hp.below h) h0 (inB_mono hn (by decide)) (fun p h => inB_mono (hP p h) (by decide))
  have HE2 : Hid _ := fun (w' : World) (h : Below w0.heap.size w0 w') => nends_any n Q _ w' (hq.below h) h1 (inB_mono hn (by decide)) (fun p h => inB_mono (hQ p h) (by decide))
  have HS : Hid _ := fun w' => nsizes_any n w'
  have hin : n.inB 16777216 = true := inB_mono hn (by decide)
  have e1 : dnT n = dn n := by simp [dnT, hin]
  have e2 : upT n = up n := by simp [upT, hin]
  rw [e1, e2] at HS
  have hu : up n = dn n ∨ up n = dn n + 1 := by unfold up; split <;> simp
  have hdr := dn_rng hin
  obtain ⟨g1, g2⟩ := gap_rng h0 h1 hP hQ hn
  have HG : Hid (gapZ P Q r s n = (if 0 ≤ loP n Q - hiP n P then (loP n Q - hiP n P).tdiv (up n) else -((dn n - 1 - (loP n Q - hiP n P)).tdiv (dn n))) - r - s) := rfl
  clear hp ha he hq hb hf hin e1 e2 hP hQ hn h0 h1
  generalize loP n Q = lo at *
  generalize hiP n P = hi at *
  generalize dn n = d at *
  generalize up n = u at *
  generalize gapZ P Q r s n = res at *
  generalize loP n P = lo' at *
  generalize hiP n Q = hi' at *
  obtain ⟨nx, ny, nz⟩ := n
  unfold coreA Pt.v at *
  dsimp only at *
  obtain ⟨V, hV⟩ : ∃ V, V = ((w0.alloc (.cells #[.slice o P.length cap, .slice o2 A.length cap2, .slice o3 E.length cap3, .int .i64 r] 24)).alloc (.cells #[.slice o4 Q.length cap4, .slice o5 B.length cap5, .slice o6 F.length cap6, .int .i64 s] 24)).alloc (.cells #[.int .i64 nx, .int .i64 ny, .int .i64 nz] 26) := ⟨_, rfl⟩
  obtain ⟨cb, hcb⟩ : ∃ b, b = w0.heap.size := ⟨_, rfl⟩
  have HB : Hid (Below w0.heap.size w0 V) := by show Below _ _ _; rw [hV]; exact b_step (b_step (n_after _ _) (n_after _ _)) (n_after _ _)
  have HC : Hid (V.cell? ⟨cb, 0, none⟩ = some (.slice o P.length cap) ∧ V.cell? ⟨cb, 3, none⟩ = some (.int .i64 r) ∧ V.cell? ⟨cb + 1, 0, none⟩ = some (.slice o4 Q.length cap4) ∧ V.cell? ⟨cb + 1, 3, none⟩ = some (.int .i64 s) ∧ V.cell? ⟨cb + 1 + 1, 0, none⟩ = some (.int .i64 nx) ∧ V.cell? ⟨cb + 1 + 1, 1, none⟩ = some (.int .i64 ny) ∧ V.cell? ⟨cb + 1 + 1, 2, none⟩ = some (.int .i64 nz)) := by
    show _ ∧ _
    rw [hV, hcb]
    simp [go_sem]
  go_enter Try.func22, Try.ntmps22
  go_upto_region 1 with fail
  rw [← hV, ← hcb]
  clear hV hcb
  obtain ⟨q0, q3, r0, r3, n0, n1, n2⟩ := HC.out
  clear HC
  go_wp2_with (fail)
  refine Calls.mono (HE1.out _ HB.out) ?_
  rintro e V1 ⟨rfl, hb⟩
  have q3 := c_after hb q3
  have r0 := c_after hb r0
  have r3 := c_after hb r3
  have n0 := c_after hb n0
  have n1 := c_after hb n1
  have n2 := c_after hb n2
  have HB : Hid _ := b_step HB.out hb
  clear hb
  go_wp2_with (fail)
  refine Calls.mono (HE2.out _ HB.out) ?_
  rintro e V2 ⟨rfl, hb⟩
  have q3 := c_after hb q3
  have r3 := c_after hb r3
  have n0 := c_after hb n0
  have n1 := c_after hb n1
  have n2 := c_after hb n2
  have HB : Hid _ := b_step HB.out hb
  clear hb
  go_wp2_with (fail)
  refine Calls.mono (HS.out _) ?_
  rintro e V3 ⟨rfl, hb⟩
  have q3 := c_after hb q3
  have r3 := c_after hb r3
  have HB : Hid _ := b_step HB.out hb
  clear hb
  obtain ⟨rm, hrm⟩ : ∃ m, lo - hi = m := ⟨_, rfl⟩
  have hrw : IntKind.i64.wrap (lo - hi) = rm := by rw [hrm, IntKind.wrap_i64]; omega
  rw [hrm] at HG
  by_cases hge : 0 ≤ rm
  · rw [if_pos hge] at HG
    have hu0 : 0 < u := by omega
    have ht := tdiv_rng (a := rm) (b := u) (C := 105553116266496) ⟨hge, by omega⟩ hu0
    have HT : Hid _ := ht
    obtain ⟨t, ht2⟩ : ∃ t, rm.tdiv u = t := ⟨_, rfl⟩
    rw [ht2] at HG ht
    have hune : ¬ u = 0 := by omega
    have htw : wrap64 t = t := w64 (by omega) (by omega)
    clear HT hrm
    go_wp2_with (fail)
    go_ret
    exact ⟨by rw [HG.out]; rfl, HB.out⟩
  · rw [if_neg hge] at HG
    obtain ⟨k, hk⟩ : ∃ k, d - 1 - rm = k := ⟨_, rfl⟩
    have hkr : 0 ≤ k ∧ k ≤ 211106232532992 := by omega
    have ht := tdiv_rng (a := k) (b := d) (C := 211106232532992) hkr (by omega)
    obtain ⟨t, ht2⟩ : ∃ t, k.tdiv d = t := ⟨_, rfl⟩
    rw [hk, ht2] at HG
    rw [ht2] at ht
    have hune : ¬ d = 0 := by omega
    have hkw : IntKind.i64.wrap (d - 1 - rm) = k := by rw [hk, IntKind.wrap_i64]; omega
    have htw : wrap64 t = t := w64 (by omega) (by omega)
    clear hrm hk
    go_wp2_with (fail)
    go_ret
    exact ⟨by rw [HG.out]; rfl, HB.out⟩
end Go.Proofs.Ytccdgpijjgeedaa
