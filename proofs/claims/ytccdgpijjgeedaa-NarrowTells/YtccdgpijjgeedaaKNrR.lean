/- The document's own Gap of layer 9. -/
import Derived.Test.YtccdgpijjgeedaaKNrQ
namespace Go.Proofs.Ytccdgpijjgeedaa
open Go.RowKit Go.Shelf
set_option linter.unusedVariables false

set_option maxHeartbeats 4000000 in
set_option maxRecDepth 100000 in
theorem rgap9_any (a b : Cr) (n : Pt) (pv av ev qv bv fv : Value) (w0 : World) (hp : Lies w0 pv a.P) (ha : Lies w0 av a.A) (he : Lies w0 ev a.E) (hq : Lies w0 qv b.P) (hb : Lies w0 bv b.A) (hf : Lies w0 fv b.E)
    (h0 : 0 < a.P.length) (h1 : 0 < b.P.length) (hP : ∀ p ∈ a.P, p.inB 16777216 = true) (hQ : ∀ p ∈ b.P, p.inB 16777216 = true) (hr : 0 ≤ a.r ∧ a.r ≤ 65536) (hs : 0 ≤ b.r ∧ b.r ≤ 65536) (hn : n.inB 1048576 = true) (hd : 0 < dn n) :
    Calls Try.prog 25 #[coreA pv av ev a.r, coreA qv bv fv b.r, n.v] w0 fun e W => e = .returned (.int .i64 (gapZ a.P b.P a.r b.r n)) ∧ Below w0.heap.size w0 W := by
  obtain ⟨P, A, E, r⟩ := a
  obtain ⟨Q, B, F, s⟩ := b
  dsimp only at *
  obtain ⟨o, cap, rfl, hlc, hcm, _⟩ := hp.form
  obtain ⟨o2, cap2, rfl, _, _, _⟩ := ha.form
  obtain ⟨o3, cap3, rfl, _, _, _⟩ := he.form
  obtain ⟨o4, cap4, rfl, _, _, _⟩ := hq.form
  obtain ⟨o5, cap5, rfl, _, _, _⟩ := hb.form
  obtain ⟨o6, cap6, rfl, _, _, _⟩ := hf.form
  have hnn : n.neg.inB 67108864 = true := by rw [Pt.inB_iff] at hn ⊢; unfold Pt.neg; dsimp only; omega
  have HE1 : Hid _ := fun (w' : World) (h : Below w0.heap.size w0 w') => rfar9_any n P _ w' (hp.below h) h0 (inB_mono hn (by decide)) (fun p h => inB_mono (hP p h) (by decide))
  have HE2 : Hid _ := fun (w' : World) (h : Below w0.heap.size w0 w') => rfar9_any n.neg Q _ w' (hq.below h) h1 hnn (fun p h => inB_mono (hQ p h) (by decide))
  rw [show hiP n.neg Q = -(loP n Q) from hiK_neg n Q _] at HE2
  have HS : Hid _ := fun w' => rsizes9_any n w'
  have hin : n.inB 16777216 = true := inB_mono hn (by decide)
  have e1 : dnT n = dn n := by simp [dnT, hin]
  have e2 : upT n = up n := by simp [upT, hin]
  rw [e1, e2] at HS
  have hu : up n = dn n ∨ up n = dn n + 1 := by unfold up; split <;> simp
  have hdr := dn_rng hin
  obtain ⟨g1, g2⟩ := gap_rng h0 h1 hP hQ hn
  rw [Pt.inB_iff] at hn
  have HG : Hid (gapZ P Q r s n = (if 0 ≤ loP n Q - hiP n P then (loP n Q - hiP n P).tdiv (up n) else -((dn n - 1 - (loP n Q - hiP n P)).tdiv (dn n))) - r - s) := rfl
  clear hp ha he hq hb hf hin e1 e2 hP hQ h0 h1 hnn
  generalize loP n Q = lo at *
  generalize hiP n P = hi at *
  generalize dn n = d at *
  generalize up n = u at *
  generalize gapZ P Q r s n = res at *
  obtain ⟨nx, ny, nz⟩ := n
  unfold coreA Pt.v Pt.neg at *
  dsimp only at *
  obtain ⟨mx, hmx⟩ : ∃ z, -nx = z := ⟨_, rfl⟩
  obtain ⟨my, hmy⟩ : ∃ z, -ny = z := ⟨_, rfl⟩
  obtain ⟨mz, hmz⟩ : ∃ z, -nz = z := ⟨_, rfl⟩
  obtain ⟨nl, hnl⟩ : ∃ z, -lo = z := ⟨_, rfl⟩
  have wx : IntKind.i64.wrap (-nx) = mx := by rw [hmx, IntKind.wrap_i64]; omega
  have wy : IntKind.i64.wrap (-ny) = my := by rw [hmy, IntKind.wrap_i64]; omega
  have wz : IntKind.i64.wrap (-nz) = mz := by rw [hmz, IntKind.wrap_i64]; omega
  have wl : IntKind.i64.wrap (-nl) = lo := by rw [← hnl, IntKind.wrap_i64]; omega
  rw [hmx, hmy, hmz, hnl] at HE2
  clear hmx hmy hmz hnl hn
  obtain ⟨V, hV⟩ : ∃ V, V = ((w0.alloc (.cells #[.slice o P.length cap, .slice o2 A.length cap2, .slice o3 E.length cap3, .int .i64 r] 24)).alloc (.cells #[.slice o4 Q.length cap4, .slice o5 B.length cap5, .slice o6 F.length cap6, .int .i64 s] 24)).alloc (.cells #[.int .i64 nx, .int .i64 ny, .int .i64 nz] 26) := ⟨_, rfl⟩
  obtain ⟨cb, hcb⟩ : ∃ b, b = w0.heap.size := ⟨_, rfl⟩
  have HB : Hid (Below w0.heap.size w0 V) := by show Below _ _ _; rw [hV]; exact b_step (b_step (n_after _ _) (n_after _ _)) (n_after _ _)
  have HC : Hid (V.cell? ⟨cb, 0, none⟩ = some (.slice o P.length cap) ∧ V.cell? ⟨cb, 3, none⟩ = some (.int .i64 r) ∧ V.cell? ⟨cb + 1, 0, none⟩ = some (.slice o4 Q.length cap4) ∧ V.cell? ⟨cb + 1, 3, none⟩ = some (.int .i64 s) ∧ V.cell? ⟨cb + 1 + 1, 0, none⟩ = some (.int .i64 nx) ∧ V.cell? ⟨cb + 1 + 1, 1, none⟩ = some (.int .i64 ny) ∧ V.cell? ⟨cb + 1 + 1, 2, none⟩ = some (.int .i64 nz)) := by
    show _ ∧ _
    rw [hV, hcb]
    simp [go_sem]
  go_enter Try.func25, Try.ntmps25
  go_upto_region 1 with fail
  rw [← hV, ← hcb]
  clear hV hcb
  obtain ⟨q0, q3, r0, r3, n0, n1, n2⟩ := HC.out
  clear HC
  go_wp2_with (fail)
  refine Calls.mono (HE1.out _ HB.out) ?_
  rintro e V1 ⟨rfl, hb⟩
  have q3 := c_after hb q3
  have r0 := c_after hb r0
  have r3 := c_after hb r3
  have n0 := c_after hb n0
  have n1 := c_after hb n1
  have n2 := c_after hb n2
  have HB : Hid _ := b_step HB.out hb
  clear hb HE1 q0
  go_wp2_with (fail)
  refine Calls.mono (HE2.out _ HB.out) ?_
  rintro e V2 ⟨rfl, hb⟩
  have q3 := c_after hb q3
  have r3 := c_after hb r3
  have n0 := c_after hb n0
  have n1 := c_after hb n1
  have n2 := c_after hb n2
  have HB : Hid _ := b_step HB.out hb
  clear hb HE2 wx wy wz
  obtain ⟨rm, hrm⟩ : ∃ m, lo - hi = m := ⟨_, rfl⟩
  have hrw : IntKind.i64.wrap (lo - hi) = rm := by rw [hrm, IntKind.wrap_i64]; omega
  rw [hrm] at HG
  have HRM : Hid _ := hrm
  clear hrm
  go_wp2_with (fail)
  refine Calls.mono (HS.out _) ?_
  rintro e V3 ⟨rfl, hb⟩
  have q3 := c_after hb q3
  have r3 := c_after hb r3
  have HB : Hid _ := b_step HB.out hb
  clear hb HS n0 n1 n2 wl hrw
  by_cases hge : 0 ≤ rm
  · rw [if_pos hge] at HG
    have hu0 : 0 < u := by omega
    have ht := tdiv_rng (a := rm) (b := u) (C := 105553116266496) ⟨hge, by have := HRM.out; omega⟩ hu0
    obtain ⟨t, ht2⟩ : ∃ t, rm.tdiv u = t := ⟨_, rfl⟩
    rw [ht2] at HG ht
    have hune : ¬ u = 0 := by omega
    have htw : wrap64 t = t := w64 (by omega) (by omega)
    obtain ⟨i1, hi1⟩ : ∃ z, t - r = z := ⟨_, rfl⟩
    have wi1 : IntKind.i64.wrap (t - r) = i1 := by rw [hi1, IntKind.wrap_i64]; omega
    obtain ⟨i2, hi2⟩ : ∃ z, i1 - s = z := ⟨_, rfl⟩
    have wi2 : IntKind.i64.wrap (i1 - s) = i2 := by rw [hi2, IntKind.wrap_i64]; omega
    rw [hi1, hi2] at HG
    clear hi1 hi2
    go_upto_region 6 with fail
    go_quiet (fail)
    go_wp2_with (fail)
    go_ret
    exact ⟨by rw [HG.out]; rfl, HB.out.trans ⟨rfl, rfl, rfl, Nat.le_refl _, fun _ _ => rfl⟩⟩
  · rw [if_neg hge] at HG
    obtain ⟨k, hk⟩ : ∃ k, d - 1 - rm = k := ⟨_, rfl⟩
    have hkr : 0 ≤ k ∧ k ≤ 211106232532992 := by have := HRM.out; omega
    have ht := tdiv_rng (a := k) (b := d) (C := 211106232532992) hkr (by omega)
    obtain ⟨t, ht2⟩ : ∃ t, k.tdiv d = t := ⟨_, rfl⟩
    rw [hk, ht2] at HG
    rw [ht2] at ht
    have hune : ¬ d = 0 := by omega
    have hrr : -52776558133248 - 52776558133248 ≤ rm := by have := HRM.out; omega
    obtain ⟨j1, hj1⟩ : ∃ z, -rm = z := ⟨_, rfl⟩
    have wj1 : IntKind.i64.wrap (-rm) = j1 := by rw [hj1, IntKind.wrap_i64]; omega
    obtain ⟨j2, hj2⟩ : ∃ z, j1 + d = z := ⟨_, rfl⟩
    have wj2 : IntKind.i64.wrap (j1 + d) = j2 := by rw [hj2, IntKind.wrap_i64]; omega
    have wj3 : IntKind.i64.wrap (j2 - 1) = k := by rw [IntKind.wrap_i64]; omega
    have htw : wrap64 t = t := w64 (by omega) (by omega)
    obtain ⟨j4, hj4⟩ : ∃ z, -t = z := ⟨_, rfl⟩
    have wj4 : IntKind.i64.wrap (-t) = j4 := by rw [hj4, IntKind.wrap_i64]; omega
    obtain ⟨i1, hi1⟩ : ∃ z, j4 - r = z := ⟨_, rfl⟩
    have wi1 : IntKind.i64.wrap (j4 - r) = i1 := by rw [hi1, IntKind.wrap_i64]; omega
    obtain ⟨i2, hi2⟩ : ∃ z, i1 - s = z := ⟨_, rfl⟩
    have wi2 : IntKind.i64.wrap (i1 - s) = i2 := by rw [hi2, IntKind.wrap_i64]; omega
    rw [hj4, hi1, hi2] at HG
    clear hj1 hj2 hj4 hi1 hi2 hk
    go_upto_region 7 with fail
    go_quiet (fail)
    go_wp2_with (fail)
    go_ret
    exact ⟨by rw [HG.out]; rfl, HB.out.trans ⟨rfl, rfl, rfl, Nat.le_refl _, fun _ _ => rfl⟩⟩
end Go.Proofs.Ytccdgpijjgeedaa
