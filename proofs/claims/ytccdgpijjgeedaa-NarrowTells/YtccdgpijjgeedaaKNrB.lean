/- Package narrow: what may be, ends, roots, sizes, reaches, gaps, long directions. -/
import Derived.Test.YtccdgpijjgeedaaKNrA
namespace Go.Proofs.Ytccdgpijjgeedaa
open Go.RowKit Go.Shelf
open Fx (isq isq_is isq_of)
set_option linter.unusedVariables false

set_option maxHeartbeats 2000000 in
set_option maxRecDepth 100000 in
theorem ndir_any (Ls : List Pt) (v : Value) (w : World) (hv : Lies w v Ls) :
    Calls Try.prog 46 #[v] w fun e W => e = .returned (.bool (decide (Ls.length ≤ 128) && Ls.all (·.inB 1048576))) ∧ Below w.heap.size w W := by
  have HA : Hid _ := fun (w' : World) (h : Lies w' v Ls) => nall_any Ls 1048576 v w' h (by decide) (by decide)
  obtain ⟨o, cap, rfl, hlc, hcm, _⟩ := hv.form
  have HV : Hid _ := hv
  clear hv
  by_cases h : Ls.length ≤ 128
  · have h' : (Ls.length : Int) ≤ 128 := by omega
    have HD : Hid (decide (Ls.length ≤ 128) = true) := decide_eq_true h
    clear h
    go_enter Try.func46, Try.ntmps46
    go_wp2_with (fail)
    refine Calls.mono (HA.out _ HV.out) ?_
    rintro e V ⟨rfl, hb⟩
    go_wp2_with (fail)
    go_ret
    exact ⟨by rw [HD.out]; rfl, hb⟩
  · have h' : ¬ (Ls.length : Int) ≤ 128 := by omega
    have HD : Hid (decide (Ls.length ≤ 128) = false) := decide_eq_false h
    clear h
    go_enter Try.func46, Try.ntmps46
    go_wp2_with (fail)
    go_ret
    exact ⟨by rw [HD.out]; rfl, Below.refl _ _⟩

theorem pow_rng : ∀ {g : Nat}, g < 25 → (1 : Int) ≤ 2 ^ g ∧ (2 : Int) ^ g ≤ 16777216 := by decide
theorem root_shrink {r b n : Int} (h : n < (r + 2 * b) * (r + 2 * b)) (h2 : ¬ (r + b) * (r + b) ≤ n) : n < (r + b) * (r + b) := by omega
set_option maxHeartbeats 2000000 in
set_option maxRecDepth 100000 in
theorem nroot_any (n : Int) (w : World) (h0 : 0 ≤ n) (h1 : n < 1125899906842624) :
    Calls Try.prog 28 #[.int .i64 n] w fun e W => e = .returned (.int .i64 (isq n.toNat : Int)) ∧ W = w := by
  go_enter Try.func28, Try.ntmps28
  go_wp2_with (fail)
  go_loopg [3, 4] 25 (fun gm s3 s4 wr => ∃ (r b : Int), s3 = .int .i64 r ∧ s4 = .int .i64 b ∧ wr = w ∧ 0 ≤ r ∧ r ≤ 33554432 ∧ Hid (r * r ≤ n) ∧ ((gm = 0 ∧ b = 0 ∧ Hid (n < (r + 1) * (r + 1))) ∨ ∃ g : Nat, gm = g + 1 ∧ g < 25 ∧ b = 2 ^ g ∧ Hid (n < (r + 2 * 2 ^ g) * (r + 2 * 2 ^ g))))
  case atStart => exact ⟨0, 16777216, rfl, rfl, rfl, by omega, by omega, by show _ ≤ _; omega, Or.inr ⟨24, rfl, by omega, by decide, by show _ < _; omega⟩⟩
  case round =>
    obtain ⟨r, b, rfl, rfl, rfl, hr0, hr1, HR, hc⟩ := hrel
    rcases hc with ⟨hg, rfl, HN⟩ | ⟨g, hg, hg2, hb, HN⟩
    · go_wp2_with (fail)
      go_ret
      exact ⟨by rw [isq_of hr0 HR.out HN.out]; rfl, rfl⟩
    · have hb1 : 1 ≤ b ∧ b ≤ 16777216 := by
        have := pow_rng hg2
        omega
      have hb0 : 0 < b := hb1.1
      have hm := mul_in (a := r + b) (b := r + b) (A := 67108864) (B := 67108864) (by omega) (by omega)
      have HP : Hid _ := hg
      have HB : Hid _ := hb
      have HG2 : Hid _ := hg2
      obtain ⟨c, hc⟩ : ∃ c, b.tdiv 2 = c := ⟨_, rfl⟩
      have HC : Hid _ := hc
      have hcw : wrap64 c = c := by
        have h3 : 0 ≤ c ∧ c ≤ b := by
          rw [← hc]
          have := Int.tdiv_eq_ediv_of_nonneg (a := b) (b := 2) (by omega)
          omega
        exact w64 (by omega) (by omega)
      obtain ⟨m, hm1⟩ : ∃ m, r + b = m := ⟨_, rfl⟩
      rw [hm1] at hm
      have HM1 : Hid _ := hm1
      have hmw : IntKind.i64.wrap (r + b) = m := by rw [hm1, IntKind.wrap_i64]; omega
      obtain ⟨q, hq⟩ : ∃ q, m * m = q := ⟨_, rfl⟩
      have hqw : IntKind.i64.wrap (m * m) = q := by rw [hq, IntKind.wrap_i64]; omega
      have HQ : Hid _ := hq
      clear hg hb hg2 hm hm1 hq
      have fin : Hid (∀ r2 : Int, 0 ≤ r2 → r2 ≤ 33554432 → r2 * r2 ≤ n → n < (r2 + b) * (r2 + b) → ∃ (r b : Int), Value.int .i64 r2 = .int .i64 r ∧ Value.int .i64 c = .int .i64 b ∧ 0 ≤ r ∧ r ≤ 33554432 ∧ Hid (r * r ≤ n) ∧ ((g = 0 ∧ b = 0 ∧ Hid (n < (r + 1) * (r + 1))) ∨ ∃ g' : Nat, g = g' + 1 ∧ g' < 25 ∧ b = 2 ^ g' ∧ Hid (n < (r + 2 * 2 ^ g') * (r + 2 * 2 ^ g')))) := fun r2 k0 k1 k2 k3 => by
        refine ⟨r2, c, rfl, rfl, k0, k1, k2, ?_⟩
        have hb := HB.out
        have hcc := HC.out
        cases g with
        | zero =>
          rw [hb] at hcc k3
          exact Or.inl ⟨rfl, hcc.symm.trans (by decide), k3⟩
        | succ g' =>
          have e2 : (2 : Int) ^ (g' + 1) = 2 * 2 ^ g' := by rw [Int.pow_succ, Int.mul_comm]
          rw [hb, e2] at hcc k3
          refine Or.inr ⟨g', rfl, by have := HG2.out; omega, ?_, k3⟩
          rw [← hcc, Int.mul_tdiv_cancel_left _ (by decide)]
      by_cases hle : q ≤ n
      · have HR2 : Hid (m * m ≤ n) := by show _ ≤ _; rw [HQ.out]; exact hle
        have HF : Hid _ := fin.out m (by have := HM1.out; omega) (by
          have h7 := HR2.out
          have h8 : m < 33554432 := by
            apply Int.not_le.1
            intro h9
            have := Int.mul_le_mul h9 h9 (by decide) (by omega)
            omega
          omega) HR2.out (by
            have h9 := HN.out
            rw [← HB.out] at h9
            rw [← HM1.out, show r + b + b = r + 2 * b by omega]
            exact h9)
        go_wp2_with (fail)
        go_roundg g
        case rel => obtain ⟨r9, b9, k1, k2, k3⟩ := HF.out; exact ⟨r9, b9, k1, (by first | exact k2 | (rw [hcw]; exact k2)), rfl, k3⟩
        case measure => have := HP.out; omega
      · have HF : Hid _ := fin.out r hr0 hr1 HR.out (by rw [HM1.out, HQ.out]; omega)
        go_wp2_with (fail)
        go_roundg g
        case rel => obtain ⟨r9, b9, k1, k2, k3⟩ := HF.out; exact ⟨r9, b9, k1, (by first | exact k2 | (rw [hcw]; exact k2)), rfl, k3⟩
        case measure => have := HP.out; omega

/-- A direction's sizes, as they are told. -/
def dnT (n : Pt) : Int := if n.inB 16777216 then dn n else 0
def upT (n : Pt) : Int := if n.inB 16777216 then up n else 0
theorem dot_rng {n : Pt} (h : n.inB 16777216 = true) : 0 ≤ n.dot n ∧ n.dot n < 1125899906842624 := ⟨dot_self n, by have := dot_inC h h (C := 844424930131968) (by decide); omega⟩
theorem dn_rng {n : Pt} (h : n.inB 16777216 = true) : 0 ≤ dn n ∧ dn n < 33554432 := by
  obtain ⟨h0, h1, _⟩ := dn_is n
  refine ⟨h0, ?_⟩
  apply Int.not_le.1
  intro h9
  have := Int.mul_le_mul h9 h9 (by decide) (by omega)
  have := (dot_rng h).2
  omega
set_option maxHeartbeats 2000000 in
set_option maxRecDepth 100000 in
theorem nsizes_any (n : Pt) (w : World) :
    Calls Try.prog 12 #[n.v] w fun e W => e = .returned (.tuple #[.int .i64 (dnT n), .int .i64 (upT n)]) ∧ Below w.heap.size w W := by
  have HW : Hid _ := fun w' => nwithin_any n 16777216 w' (by decide) (by decide)
  have HD : Hid _ := fun w' (h : n.inB 16777216 = true) => ndot_any n n w' (inB_mono h (by decide)) (inB_mono h (by decide))
  have HRT : Hid _ := fun w' (h : n.inB 16777216 = true) => nroot_any (n.dot n) w' (dot_rng h).1 (dot_rng h).2
  have HDN : Hid ((isq (n.dot n).toNat : Int) = dn n) := rfl
  rw [HDN.out] at HRT
  cases hin : n.inB 16777216 with
  | true =>
    obtain ⟨d0, d1⟩ := dn_rng hin
    have hm := mul_in (a := dn n) (b := dn n) (A := 33554432) (B := 33554432) (by omega) (by omega)
    have HT1 : Hid (dnT n = dn n) := by show _ = _; simp [dnT, hin]
    have HT2 : Hid (upT n = if dn n * dn n = n.dot n then dn n else dn n + 1) := by show _ = _; simp [upT, up, hin]
    have HW1 : Hid _ := fun w' => HW.out w'
    simp only [hin] at HW1
    have HD1 : Hid _ := fun w' => HD.out w' hin
    have HRT1 : Hid _ := fun w' => HRT.out w' hin
    clear hin HDN HW HD HRT
    generalize dn n = d at *
    generalize n.dot n = q at *
    obtain ⟨sq, hsq⟩ : ∃ sq, d * d = sq := ⟨_, rfl⟩
    have hsw : IntKind.i64.wrap (d * d) = sq := by rw [hsq, IntKind.wrap_i64]; omega
    rw [hsq] at HT2
    clear hm hsq
    obtain ⟨x, y, z⟩ := n
    unfold Pt.v at *
    dsimp only at *
    go_enter Try.func12, Try.ntmps12
    go_wp2_with (fail)
    refine Calls.mono (HW1.out _) ?_
    rintro e V ⟨rfl, hb⟩
    have B3 : Hid _ := (Box3.new w x y z 26).step hb
    have hB : Hid _ := b_step (n_after w _) hb
    clear hb
    obtain ⟨c0, c1, c2, _, _, _⟩ := B3.out
    go_wp2_with (fail)
    refine Calls.mono (HD1.out _) ?_
    rintro e V2 ⟨rfl, hb⟩
    have hB : Hid _ := b_step hB.out hb
    clear hb c0 c1 c2 B3
    go_wp2_with (fail)
    refine Calls.mono (HRT1.out _) ?_
    rintro e V3 ⟨rfl, rfl⟩
    by_cases he : sq = q
    · rw [if_pos he] at HT2
      go_wp2_with (fail)
      exact bodyPost_ret (v := .tuple #[.int .i64 d, .int .i64 d]) (by simp [results, Try.results12, go_sem]) rfl ⟨by rw [HT1.out, HT2.out], hB.out⟩
    · rw [if_neg he] at HT2
      have hw1 : IntKind.i64.wrap (d + 1) = d + 1 := by rw [IntKind.wrap_i64]; omega
      go_wp2_with (fail)
      exact bodyPost_ret (v := .tuple #[.int .i64 d, .int .i64 (d + 1)]) (by simp [results, Try.results12, go_sem]) rfl ⟨by rw [HT1.out, HT2.out], hB.out⟩
  | false =>
    have HT1 : Hid (dnT n = 0) := by show _ = _; simp [dnT, hin]
    have HT2 : Hid (upT n = 0) := by show _ = _; simp [upT, hin]
    have HW1 : Hid _ := fun w' => HW.out w'
    simp only [hin] at HW1
    clear hin HDN HD HRT HW
    obtain ⟨x, y, z⟩ := n
    unfold Pt.v at *
    dsimp only at *
    go_enter Try.func12, Try.ntmps12
    go_wp2_with (fail)
    refine Calls.mono (HW1.out _) ?_
    rintro e V ⟨rfl, hb⟩
    have hB : Hid _ := b_step (n_after w _) hb
    clear hb
    go_wp2_with (fail)
    exact bodyPost_ret (v := .tuple #[.int .i64 0, .int .i64 0]) (by simp [results, Try.results12, go_sem]) rfl ⟨by rw [HT1.out, HT2.out], hB.out⟩


set_option maxHeartbeats 4000000 in
set_option maxRecDepth 100000 in
theorem nends_any (n : Pt) (P : List Pt) (v : Value) (w0 : World) (hv : Lies w0 v P) (h0 : 0 < P.length) (hn : n.inB 67108864 = true) (hP : ∀ p ∈ P, p.inB 67108864 = true) :
    Calls Try.prog 32 #[v, n.v] w0 fun e W => e = .returned (.tuple #[.int .i64 (loP n P), .int .i64 (hiP n P)]) ∧ Below w0.heap.size w0 W := by
  have HV : Hid _ := hv
  obtain ⟨o, cap, rfl, hlc, hcm, hcell⟩ := hv.form
  have HD : Hid _ := fun (i : Nat) (hi : i < P.length) w' => ndot_any n (pt P i) w' (inB_mono hn (by decide)) (inB_mono (hP _ (pt_mem hi)) (by decide))
  obtain ⟨g, off, rfl, x0, x1, x2⟩ := hcell 0 h0
  have hne : ¬ P = [] := fun e => by rw [e] at h0; simp at h0
  have HD0 : Hid _ := fun w' => HD.out 0 h0 w'
  have HLO : Hid (∀ k, loK n P (k + 1) = if n.dot (pt P (k + 1)) < loK n P k then n.dot (pt P (k + 1)) else loK n P k) := fun k => by show min _ _ = _; omega
  have HHI : Hid (∀ k, hiK n P (k + 1) = if hiK n P k < n.dot (pt P (k + 1)) then n.dot (pt P (k + 1)) else hiK n P k) := fun k => by show max _ _ = _; omega
  have HLF : Hid (loP n P = loK n P (P.length - 1)) := rfl
  have HHF : Hid (hiP n P = hiK n P (P.length - 1)) := rfl
  have HL0 : Hid (n.dot (pt P 0) = loK n P 0) := rfl
  have HH0 : Hid (hiK n P 0 = loK n P 0) := rfl
  clear hv hn hP
  rw [show off + 0 * 3 = off by omega] at x0 x1 x2
  obtain ⟨nx, ny, nz⟩ := n
  obtain ⟨V, hV⟩ : ∃ V, V = w0.alloc (.cells #[.int .i64 nx, .int .i64 ny, .int .i64 nz] 26) := ⟨_, rfl⟩
  obtain ⟨nb, hnb⟩ : ∃ b, b = w0.heap.size := ⟨_, rfl⟩
  have B3 : Hid (Box3 V nb ⟨nx, ny, nz⟩) := by show Box3 _ _ _; rw [hV, hnb]; exact Box3.new _ _ _ _ _
  have hB : Hid (Below w0.heap.size w0 V) := by show Below _ _ _; rw [hV]; exact n_after _ _
  have c0 := c_after hB.out x0
  have c1 := c_after hB.out x1
  have c2 := c_after hB.out x2
  have HV : Hid _ := HV.out.below hB.out
  clear x0 x1 x2 hcell
  rw [HL0.out] at HD0
  obtain ⟨dq0, hd0⟩ : ∃ d, d = loK ⟨nx, ny, nz⟩ P 0 := ⟨_, rfl⟩
  rw [← hd0] at HD0 HH0
  have HE0 : Hid _ := hd0
  clear hd0 HL0
  unfold Pt.v at *
  generalize (pt P 0).x = ax at *
  generalize (pt P 0).y = ay at *
  generalize (pt P 0).z = az at *
  dsimp only at *
  go_enter Try.func32, Try.ntmps32
  go_upto_region 1 with fail
  rw [← hV, ← hnb]
  clear hV hnb
  obtain ⟨b0_, b1_, b2_, _, _, _⟩ := B3.out
  go_cut [4] from 9 to 13 (fun s4 wx => s4 = .int .i64 dq0 ∧ Hid (Below V.heap.size V wx))
  case first =>
    refine RV.region_by (fun j v w => match j with | 0 => v = .agg #[.int .i64 (nx), .int .i64 (ny), .int .i64 (nz)] | 1 => v = .slice (some ⟨g, off, none⟩) P.length cap | 2 => v = .pointer (some ⟨g, off, none⟩) | 3 => v = .agg #[.int .i64 (ax), .int .i64 (ay), .int .i64 (az)] | 4 => v = .int .i64 (dq0) | 5 => v = .int .i64 (dq0) | _ => True) (fun γ L w9 => Below V.heap.size V w9) (by kernel_rfl) (by kernel_rfl) (by kernel_rfl) (by kernel_rfl) ?_ ?_ ?_
    · exact (Below.refl _ V).drew
    · generalize hD : dstOf _ = D
      generalize hWA : waitsFor _ = WA
      generalize hZ : Act.mk _ _ = Z
      obtain ⟨R, hR⟩ : ∃ R : Nat → Value → World → Prop, R = (fun j v w => match j with | 0 => v = .agg #[.int .i64 (nx), .int .i64 (ny), .int .i64 (nz)] | 1 => v = .slice (some ⟨g, off, none⟩) P.length cap | 2 => v = .pointer (some ⟨g, off, none⟩) | 3 => v = .agg #[.int .i64 (ax), .int .i64 (ay), .int .i64 (az)] | 4 => v = .int .i64 (dq0) | 5 => v = .int .i64 (dq0) | _ => True) := ⟨_, rfl⟩
      rw [← hR]
      have d0 : D 0 = some 9 := by rw [← hD]; rfl
      have d1 : D 1 = some 10 := by rw [← hD]; rfl
      have d2 : D 2 = some 11 := by rw [← hD]; rfl
      have d3 : D 3 = some 12 := by rw [← hD]; rfl
      have d4 : D 4 = some 13 := by rw [← hD]; rfl
      have d5 : D 5 = some 4 := by rw [← hD]; rfl
      have r0 : ∀ v w, R 0 v w = (v = .agg #[.int .i64 (nx), .int .i64 (ny), .int .i64 (nz)]) := fun v w => by rw [hR]; rfl
      have r1 : ∀ v w, R 1 v w = (v = .slice (some ⟨g, off, none⟩) P.length cap) := fun v w => by rw [hR]; rfl
      have r2 : ∀ v w, R 2 v w = (v = .pointer (some ⟨g, off, none⟩)) := fun v w => by rw [hR]; rfl
      have r3 : ∀ v w, R 3 v w = (v = .agg #[.int .i64 (ax), .int .i64 (ay), .int .i64 (az)]) := fun v w => by rw [hR]; rfl
      have r4 : ∀ v w, R 4 v w = (v = .int .i64 (dq0)) := fun v w => by rw [hR]; rfl
      have r5 : ∀ v w, R 5 v w = (v = .int .i64 (dq0)) := fun v w => by rw [hR]; rfl
      have E0 : ∀ (γ : Nat → Value) (L : Nat → Bool) (a : Act) (w : World), RV.Held D WA R (fun γ L w9 => Below V.heap.size V w9) Z γ L a w → a.tmps[0]? = some (.slice (some ⟨g, off, none⟩) P.length cap) := fun γ L a w hH => (hH.rest 0 (by rw [← hD]; exact RV.dst_free (by kernel_rfl))).trans (by rw [← hZ]; rfl)
      have E3 : ∀ (γ : Nat → Value) (L : Nat → Bool) (a : Act) (w : World), RV.Held D WA R (fun γ L w9 => Below V.heap.size V w9) Z γ L a w → a.tmps[3]? = some (.pointer (some ⟨nb, 0, none⟩)) := fun γ L a w hH => (hH.rest 3 (by rw [← hD]; exact RV.dst_free (by kernel_rfl))).trans (by rw [← hZ]; rfl)
      have K : ∀ j v w w', R j v w → R j v w' := by rw [hR]; intro j v w w' h; exact h
      clear hD hWA hZ hR
      refine RV.AllDo.cons 0 (RV.does_pure (fun γ v L w hl h => h) (fun γ L a w hH hl hA => by have e0 := E3 γ L a w hH; have hB9 := hH.glob; have z0 := c_after hB9 b0_; have z1 := c_after hB9 b1_; have z2 := c_after hB9 b2_; exact ⟨.agg #[.int .i64 (nx), .int .i64 (ny), .int .i64 (nz)], by simp [execOp, go_sem, e0, z0, z1, z2], (r0 _ _).mpr rfl⟩)) ?_
      refine RV.AllDo.cons 1 (RV.does_pure (fun γ v L w hl h => h) (fun γ L a w hH hl hA => by have e0 := E0 γ L a w hH; exact ⟨.slice (some ⟨g, off, none⟩) P.length cap, by simp [execOp, go_sem, e0], (r1 _ _).mpr rfl⟩)) ?_
      refine RV.AllDo.cons 2 (RV.does_pure (fun γ v L w hl h => h) (fun γ L a w hH hl hA => by have l0 : L 1 = true := hA ⟨1, .data⟩ (by simp) rfl; have e0 := hH.slot 1 10 d1 l0; have g0 := hH.holds 1 l0; rw [r1] at g0; rw [g0] at e0; exact ⟨.pointer (some ⟨g, off, none⟩), by simp [execOp, go_sem, e0, hne], (r2 _ _).mpr rfl⟩)) ?_
      refine RV.AllDo.cons 3 (RV.does_pure (fun γ v L w hl h => h) (fun γ L a w hH hl hA => by have l0 : L 2 = true := hA ⟨2, .data⟩ (by simp) rfl; have e0 := hH.slot 2 11 d2 l0; have g0 := hH.holds 2 l0; rw [r2] at g0; rw [g0] at e0; have hB9 := hH.glob; have z0 := c_after hB9 c0; have z1 := c_after hB9 c1; have z2 := c_after hB9 c2; exact ⟨.agg #[.int .i64 (ax), .int .i64 (ay), .int .i64 (az)], by simp [execOp, go_sem, e0, z0, z1, z2], (r3 _ _).mpr rfl⟩)) ?_
      refine RV.AllDo.cons 4 (RV.does_call (fun γ L a w hH hl hA => by have l0 : L 0 = true := hA ⟨0, .data⟩ (by simp) rfl; have e0 := hH.slot 0 9 d0 l0; have g0 := hH.holds 0 l0; rw [r0] at g0; rw [g0] at e0; have l1 : L 3 = true := hA ⟨3, .data⟩ (by simp) rfl; have e1 := hH.slot 3 12 d3 l1; have g1 := hH.holds 3 l1; rw [r3] at g1; rw [g1] at e1; have hB9 := hH.glob; exact ⟨27, #[.agg #[.int .i64 (nx), .int .i64 (ny), .int .i64 (nz)], .agg #[.int .i64 (ax), .int .i64 (ay), .int .i64 (az)]], by simp [go_sem, e0, e1], Calls.mono (HD0.out w) (by rintro e w2 ⟨rfl, hb⟩; exact ⟨_, rfl, (r4 _ _).mpr rfl, fun j v _ h => K j v _ _ h, hB9.trans (hb.mono hB9.size)⟩)⟩)) ?_
      refine RV.AllDo.cons 5 (RV.does_pure (fun γ v L w hl h => h) (fun γ L a w hH hl hA => by have l0 : L 4 = true := hA ⟨4, .data⟩ (by simp) rfl; have e0 := hH.slot 4 13 d4 l0; have g0 := hH.holds 4 l0; rw [r4] at g0; rw [g0] at e0; exact ⟨.int .i64 (dq0), by simp [execOp, go_sem, e0], (r5 _ _).mpr rfl⟩)) ?_
      exact RV.AllDo.nil
    · intro γ a5 w5 L9 hL hLo hH
      have ha := RV.held_act hH hL (by kernel_rfl) (by kernel_rfl)
      have hb8 := hH.glob
      have y0 : γ 0 = .agg #[.int .i64 (nx), .int .i64 (ny), .int .i64 (nz)] := hH.holds 0 (hL 0 (by decide))
      have y1 : γ 1 = .slice (some ⟨g, off, none⟩) P.length cap := hH.holds 1 (hL 1 (by decide))
      have y2 : γ 2 = .pointer (some ⟨g, off, none⟩) := hH.holds 2 (hL 2 (by decide))
      have y3 : γ 3 = .agg #[.int .i64 (ax), .int .i64 (ay), .int .i64 (az)] := hH.holds 3 (hL 3 (by decide))
      have y4 : γ 4 = .int .i64 (dq0) := hH.holds 4 (hL 4 (by decide))
      have y5 : γ 5 = .int .i64 (dq0) := hH.holds 5 (hL 5 (by decide))
      rw [ha]
      clear ha hH hL hLo
      simp only [RV.putAll, Act.put, List.setIfInBounds_toArray, List.set_cons_zero, List.set_cons_succ, Nat.zero_add, Nat.reduceAdd, y0, y1, y2, y3, y4, y5]
      clear y0 y1 y2 y3 y4 y5
      have HZ : Hid _ := hb8
      go_wp2_with (fail)
      go_meet
      case rel => exact ⟨rfl, HZ⟩
  case rest =>
    obtain ⟨rfl, HZ⟩ := hcut
    have B3 : Hid _ := Box3.step B3.out HZ.out
    have HV : Hid _ := Lies.below HV.out HZ.out
    have hB : Hid _ := b_step hB.out HZ.out
    clear HZ c0 c1 c2 b0_ b1_ b2_ HD0
    obtain ⟨X, hX⟩ : ∃ X : World, X = wc := ⟨_, rfl⟩
    rw [← hX] at B3 HV hB ⊢
    clear hX
    by_cases hc1 : cap = 1
    · have hl1 : P.length = 1 := by omega
      have HK : Hid (P.length - 1 = 0) := by show _ = _; omega
      rw [HK.out] at HLF HHF
      have HL1 : Hid _ := hl1
      subst hc1
      clear hne
      obtain ⟨pl, hpl⟩ : ∃ n, n = P.length := ⟨_, rfl⟩
      have e1 : pl = 1 := by rw [hpl]; exact hl1
      rw [← hpl]
      subst e1
      clear hl1
      go_wp2_with (fail)
      go_loopg [4, 5, 18] 1 (fun gm s4 s5 s18 wr => s4 = .int .i64 dq0 ∧ s5 = .int .i64 dq0 ∧ s18 = .int .i64 0 ∧ wr = X)
      case atStart => exact ⟨rfl, rfl, rfl, rfl⟩
      case round =>
        obtain ⟨rfl, rfl, rfl, rfl⟩ := hrel
        go_wp2_with (fail)
        exact bodyPost_ret (v := .tuple #[.int .i64 dq0, .int .i64 dq0]) (by simp [results, Try.results32, go_sem]) rfl ⟨by rw [HLF.out, HHF.out, HH0.out, ← HE0.out], hB.out⟩
    · have hw : IntKind.i64.wrap ((P.length : Int) - 1) = ((P.length - 1 : Nat) : Int) := by rw [IntKind.wrap_i64]; omega
      have hpl : P.length - 1 ≤ cap - 1 := by omega
      have hcc : cap - 1 ≤ 9223372036854775807 := by omega
      obtain ⟨m, hm⟩ : ∃ m, m = P.length - 1 := ⟨_, rfl⟩
      have HM : Hid _ := hm
      have HCE : Hid (∀ i, i < m → ∃ x y z, pt P (i + 1) = ⟨x, y, z⟩ ∧ X.cell? ⟨g, off + 3 + i * 3, none⟩ = some (.int .i64 x) ∧ X.cell? ⟨g, off + 3 + i * 3 + 1, none⟩ = some (.int .i64 y) ∧ X.cell? ⟨g, off + 3 + i * 3 + 2, none⟩ = some (.int .i64 z)) := fun i hi => by
        obtain ⟨o5, c5, e5, _, _, h5⟩ := HV.out.form
        simp only [Value.slice.injEq, true_and] at e5
        obtain ⟨e6, _⟩ := e5
        obtain ⟨g9, o9, e9, y0, y1, y2⟩ := h5 (i + 1) (by omega)
        rw [← e6] at e9
        cases e9
        rw [show off + (i + 1) * 3 = off + 3 + i * 3 by omega] at y0 y1 y2
        exact ⟨_, _, _, rfl, y0, y1, y2⟩
      go_upto_region 4 with fail
      rw [← hm] at hpl ⊢
      clear hm hw hne
      go_loopg [4, 5, 18] m (fun gm s4 s5 s18 wr => ∃ (i : Nat) (lo hi : Int), s4 = .int .i64 lo ∧ s5 = .int .i64 hi ∧ s18 = .int .i64 (i : Int) ∧ i ≤ m ∧ gm = m - i ∧ Hid (lo = loK ⟨nx, ny, nz⟩ P i) ∧ Hid (hi = hiK ⟨nx, ny, nz⟩ P i) ∧ Hid (Below X.heap.size X wr))
      case atStart => exact ⟨0, dq0, dq0, rfl, rfl, rfl, Nat.zero_le _, rfl, HE0, HH0.out.symm, Below.refl _ _⟩
      case round =>
        obtain ⟨i, lo, hi, rfl, rfl, rfl, hi9, hgm, HLK, HHK, HB⟩ := hrel
        have HG1 : Hid _ := hgm
        clear hgm
        by_cases hit : i < m
        · obtain ⟨ex, ey, ez, hpt, y0, y1, y2⟩ := HCE.out i hit
          have y0 := c_after HB.out y0
          have y1 := c_after HB.out y1
          have y2 := c_after HB.out y2
          have HDi : Hid _ := fun w' => HD.out (i + 1) (by have := HM.out; omega) w'
          have HL1 : Hid _ := HLO.out i
          have HH1 : Hid _ := HHI.out i
          rw [← HLK.out] at HL1
          rw [← HHK.out] at HH1
          rw [hpt] at HDi HL1 HH1
          clear hpt
          dsimp only at HDi
          generalize Pt.dot ⟨nx, ny, nz⟩ ⟨ex, ey, ez⟩ = dt at *
          have b0_ := (Box3.step B3.out HB.out).c0
          have b1_ := (Box3.step B3.out HB.out).c1
          have b2_ := (Box3.step B3.out HB.out).c2
          dsimp only at b0_ b1_ b2_
          obtain ⟨l2, hl2⟩ : ∃ v, (if dt < lo then dt else lo) = v := ⟨_, rfl⟩
          obtain ⟨h2, hh2⟩ : ∃ v, (if hi < dt then dt else hi) = v := ⟨_, rfl⟩
          rw [hl2] at HL1
          rw [hh2] at HH1
          have hnr : nb < wr.heap.size := World.block_lt_of_cell? _ _ b0_
          go_wp2_with (fail)
          refine Calls.mono (HDi.out _) ?_
          rintro e V5 ⟨rfl, hb⟩
          have HB2 : Hid _ := b_step HB.out (b_step (n_after _ _) hb)
          clear hb y0 y1 y2 b0_ b1_ b2_
          go_wp2_with (fail)
          go_roundg (m - (i + 1))
          case rel => exact ⟨i + 1, _, _, rfl, rfl, by simp, by omega, rfl, HL1.out.symm, HH1.out.symm, HB2⟩
          case measure => have := HG1.out; omega
        · obtain rfl : i = m := by omega
          have HF1 : Hid (loP ⟨nx, ny, nz⟩ P = lo) := by show _ = _; rw [HLF.out, HLK.out, HM.out]
          have HF2 : Hid (hiP ⟨nx, ny, nz⟩ P = hi) := by show _ = _; rw [HHF.out, HHK.out, HM.out]
          go_wp2_with (fail)
          exact bodyPost_ret (v := .tuple #[.int .i64 lo, .int .i64 hi]) (by simp [results, Try.results32, go_sem]) rfl ⟨by rw [HF1.out, HF2.out], b_step hB.out HB.out⟩
end Go.Proofs.Ytccdgpijjgeedaa
