/- Package narrow: what may be, ends, roots, sizes, reaches, gaps, long directions. -/
import Derived.Test.YtbhdfjoagajipaaGreatBBW0
import Derived.Test.YtbhdfjoagajipaaGreatBBW1
import Derived.Scope
namespace Go.Proofs.YtbhdfjoagajipaaGreat
open Go.RowKit Go.Shelf
open Fx (isq isq_is isq_of)
set_option linter.unusedVariables false

set_option maxHeartbeats 2000000 in
set_option maxRecDepth 100000 in
theorem ndir_any (Ls : List Pt) (v : Value) (w : World) (hv : Lies w v Ls) :
    Calls Tryz.prog 135 #[v] w fun e W => e = .returned (.bool (decide (Ls.length ≤ 128) && Ls.all (·.inB 1048576))) ∧ Below w.heap.size w W := by
  have HA : Hid _ := fun (w' : World) (h : Lies w' v Ls) => nall_any Ls 1048576 v w' h (by decide) (by decide)
  obtain ⟨o, cap, rfl, hlc, hcm, _⟩ := hv.form
  have HV : Hid _ := hv
  clear hv
  by_cases h : Ls.length ≤ 128
  · have h' : (Ls.length : Int) ≤ 128 := by omega
    have HD : Hid (decide (Ls.length ≤ 128) = true) := decide_eq_true h
    clear h
    go_enter Tryz.func135, Tryz.ntmps135
    go_wp2_with (fail)
    refine Calls.mono (HA.out _ HV.out) ?_
    rintro e V ⟨rfl, hb⟩
    go_wp2_with (fail)
    go_ret
    exact ⟨by rw [HD.out]; rfl, hb⟩
  · have h' : ¬ (Ls.length : Int) ≤ 128 := by omega
    have HD : Hid (decide (Ls.length ≤ 128) = false) := decide_eq_false h
    clear h
    go_enter Tryz.func135, Tryz.ntmps135
    go_wp2_with (fail)
    go_ret
    exact ⟨by rw [HD.out]; rfl, Below.refl _ _⟩

theorem pow_rng : ∀ {g : Nat}, g < 25 → (1 : Int) ≤ 2 ^ g ∧ (2 : Int) ^ g ≤ 16777216 := by decide
set_option maxHeartbeats 2000000 in
set_option maxRecDepth 100000 in
theorem nroot_any (n : Int) (w : World) (h0 : 0 ≤ n) (h1 : n < 1125899906842624) :
    Calls Tryz.prog 164 #[.int .i64 n] w fun e W => e = .returned (.int .i64 (isq n.toNat : Int)) ∧ W = w := by
  go_enter Tryz.func164, Tryz.ntmps164
  go_wp2_with (fail)
  go_loopg [3, 4] 25 (fun gm s3 s4 wr => ∃ (r b : Int), s3 = .int .i64 r ∧ s4 = .int .i64 b ∧ wr = w ∧ 0 ≤ r ∧ r ≤ 33554432 ∧ Hid (r * r ≤ n) ∧ ((gm = 0 ∧ b = 0 ∧ Hid (n < (r + 1) * (r + 1))) ∨ ∃ g : Nat, gm = g + 1 ∧ g < 25 ∧ b = 2 ^ g ∧ Hid (n < (r + 2 * 2 ^ g) * (r + 2 * 2 ^ g))))
  case atStart => exact ⟨0, 16777216, rfl, rfl, rfl, by omega, by omega, by show _ ≤ _; omega, Or.inr ⟨24, rfl, by omega, by decide, by show _ < _; omega⟩⟩
  case round =>
    obtain ⟨r, b, rfl, rfl, rfl, hr0, hr1, HR, hc⟩ := hrel
    rcases hc with ⟨hg, rfl, HN⟩ | ⟨g, hg, hg2, hb, HN⟩
    · go_wp2_with (fail)
      go_ret
      exact ⟨by rw [isq_of hr0 HR.out HN.out]; rfl, rfl⟩
    · have hb1 : 1 ≤ b ∧ b ≤ 16777216 := by
        have := pow_rng hg2
        omega
      have hb0 : 0 < b := hb1.1
      have hm := mul_in (a := r + b) (b := r + b) (A := 67108864) (B := 67108864) (by omega) (by omega)
      have HP : Hid _ := hg
      have HB : Hid _ := hb
      have HG2 : Hid _ := hg2
      obtain ⟨c, hc⟩ : ∃ c, b.tdiv 2 = c := ⟨_, rfl⟩
      have HC : Hid _ := hc
      have hcw : wrap64 c = c := by
        have h3 : 0 ≤ c ∧ c ≤ b := by
          rw [← hc]
          have := Int.tdiv_eq_ediv_of_nonneg (a := b) (b := 2) (by omega)
          omega
        exact w64 (by omega) (by omega)
      obtain ⟨m, hm1⟩ : ∃ m, r + b = m := ⟨_, rfl⟩
      rw [hm1] at hm
      have HM1 : Hid _ := hm1
      have hmw : IntKind.i64.wrap (r + b) = m := by rw [hm1, IntKind.wrap_i64]; omega
      obtain ⟨q, hq⟩ : ∃ q, m * m = q := ⟨_, rfl⟩
      have hqw : IntKind.i64.wrap (m * m) = q := by rw [hq, IntKind.wrap_i64]; omega
      have HQ : Hid _ := hq
      clear hg hb hg2 hm hm1 hq
      have fin : Hid (∀ r2 : Int, 0 ≤ r2 → r2 ≤ 33554432 → r2 * r2 ≤ n → n < (r2 + b) * (r2 + b) → ∃ (r b : Int), Value.int .i64 r2 = .int .i64 r ∧ Value.int .i64 c = .int .i64 b ∧ 0 ≤ r ∧ r ≤ 33554432 ∧ Hid (r * r ≤ n) ∧ ((g = 0 ∧ b = 0 ∧ Hid (n < (r + 1) * (r + 1))) ∨ ∃ g' : Nat, g = g' + 1 ∧ g' < 25 ∧ b = 2 ^ g' ∧ Hid (n < (r + 2 * 2 ^ g') * (r + 2 * 2 ^ g')))) := fun r2 k0 k1 k2 k3 => by
        refine ⟨r2, c, rfl, rfl, k0, k1, k2, ?_⟩
        have hb := HB.out
        have hcc := HC.out
        cases g with
        | zero =>
          rw [hb] at hcc k3
          exact Or.inl ⟨rfl, hcc.symm.trans (by decide), k3⟩
        | succ g' =>
          have e2 : (2 : Int) ^ (g' + 1) = 2 * 2 ^ g' := by rw [Int.pow_succ, Int.mul_comm]
          rw [hb, e2] at hcc k3
          refine Or.inr ⟨g', rfl, by have := HG2.out; omega, ?_, k3⟩
          rw [← hcc, Int.mul_tdiv_cancel_left _ (by decide)]
      by_cases hle : q ≤ n
      · have HR2 : Hid (m * m ≤ n) := by show _ ≤ _; rw [HQ.out]; exact hle
        have HF : Hid _ := fin.out m (by have := HM1.out; omega) (by
          have h7 := HR2.out
          have h8 : m < 33554432 := by
            apply Int.not_le.1
            intro h9
            have := Int.mul_le_mul h9 h9 (by decide) (by omega)
            omega
          omega) HR2.out (by
            have h9 := HN.out
            rw [← HB.out] at h9
            rw [← HM1.out, show r + b + b = r + 2 * b by omega]
            exact h9)
        go_wp2_with (fail)
        go_roundg g
        case rel => obtain ⟨r9, b9, k1, k2, k3⟩ := HF.out; exact ⟨r9, b9, k1, (by first | exact k2 | (rw [hcw]; exact k2)), rfl, k3⟩
        case measure => have := HP.out; omega
      · have HF : Hid _ := fin.out r hr0 hr1 HR.out (by rw [HM1.out, HQ.out]; omega)
        go_wp2_with (fail)
        go_roundg g
        case rel => obtain ⟨r9, b9, k1, k2, k3⟩ := HF.out; exact ⟨r9, b9, k1, (by first | exact k2 | (rw [hcw]; exact k2)), rfl, k3⟩
        case measure => have := HP.out; omega

/-- A direction's sizes, as they are told. -/
def dnT (n : Pt) : Int := if n.inB 16777216 then dn n else 0
def upT (n : Pt) : Int := if n.inB 16777216 then up n else 0
theorem dot_rng {n : Pt} (h : n.inB 16777216 = true) : 0 ≤ n.dot n ∧ n.dot n < 1125899906842624 := ⟨dot_self n, by have := dot_inC h h (C := 844424930131968) (by decide); omega⟩
theorem dn_rng {n : Pt} (h : n.inB 16777216 = true) : 0 ≤ dn n ∧ dn n < 33554432 := by
  obtain ⟨h0, h1, _⟩ := dn_is n
  refine ⟨h0, ?_⟩
  apply Int.not_le.1
  intro h9
  have := Int.mul_le_mul h9 h9 (by decide) (by omega)
  have := (dot_rng h).2
  omega
set_option maxHeartbeats 2000000 in
set_option maxRecDepth 100000 in
theorem nsizes_any (n : Pt) (w : World) :
    Calls Tryz.prog 143 #[n.v] w fun e W => e = .returned (.tuple #[.int .i64 (dnT n), .int .i64 (upT n)]) ∧ Below w.heap.size w W := by
  have HW : Hid _ := fun w' => nwithin_any n 16777216 w' (by decide) (by decide)
  have HD : Hid _ := fun w' (h : n.inB 16777216 = true) => ndot_any n n w' (inB_mono h (by decide)) (inB_mono h (by decide))
  have HRT : Hid _ := fun w' (h : n.inB 16777216 = true) => nroot_any (n.dot n) w' (dot_rng h).1 (dot_rng h).2
  have HDN : Hid ((isq (n.dot n).toNat : Int) = dn n) := rfl
  rw [HDN.out] at HRT
  cases hin : n.inB 16777216 with
  | true =>
    obtain ⟨d0, d1⟩ := dn_rng hin
    have hm := mul_in (a := dn n) (b := dn n) (A := 33554432) (B := 33554432) (by omega) (by omega)
    have HT1 : Hid (dnT n = dn n) := by show _ = _; simp [dnT, hin]
    have HT2 : Hid (upT n = if dn n * dn n = n.dot n then dn n else dn n + 1) := by show _ = _; simp [upT, up, hin]
    have HW1 : Hid _ := fun w' => HW.out w'
    simp only [hin] at HW1
    have HD1 : Hid _ := fun w' => HD.out w' hin
    have HRT1 : Hid _ := fun w' => HRT.out w' hin
    clear hin HDN HW HD HRT
    generalize dn n = d at *
    generalize n.dot n = q at *
    obtain ⟨sq, hsq⟩ : ∃ sq, d * d = sq := ⟨_, rfl⟩
    have hsw : IntKind.i64.wrap (d * d) = sq := by rw [hsq, IntKind.wrap_i64]; omega
    rw [hsq] at HT2
    clear hm hsq
    obtain ⟨x, y, z⟩ := n
    unfold Pt.v at *
    dsimp only at *
    go_enter Tryz.func143, Tryz.ntmps143
    go_wp2_with (fail)
    refine Calls.mono (HW1.out _) ?_
    rintro e V ⟨rfl, hb⟩
    have B3 : Hid _ := (Box3.new w x y z 23).step hb
    have hB : Hid _ := b_step (n_after w _) hb
    clear hb
    obtain ⟨c0, c1, c2, _, _, _⟩ := B3.out
    go_wp2_with (fail)
    refine Calls.mono (HD1.out _) ?_
    rintro e V2 ⟨rfl, hb⟩
    have hB : Hid _ := b_step hB.out hb
    clear hb c0 c1 c2 B3
    go_wp2_with (fail)
    refine Calls.mono (HRT1.out _) ?_
    rintro e V3 ⟨rfl, rfl⟩
    by_cases he : sq = q
    · rw [if_pos he] at HT2
      go_wp2_with (fail)
      exact bodyPost_ret (v := .tuple #[.int .i64 d, .int .i64 d]) (by simp [results, Tryz.results143, go_sem]) rfl ⟨by rw [HT1.out, HT2.out], hB.out⟩
    · rw [if_neg he] at HT2
      have hw1 : IntKind.i64.wrap (d + 1) = d + 1 := by rw [IntKind.wrap_i64]; omega
      go_wp2_with (fail)
      exact bodyPost_ret (v := .tuple #[.int .i64 d, .int .i64 (d + 1)]) (by simp [results, Tryz.results143, go_sem]) rfl ⟨by rw [HT1.out, HT2.out], hB.out⟩
  | false =>
    have HT1 : Hid (dnT n = 0) := by show _ = _; simp [dnT, hin]
    have HT2 : Hid (upT n = 0) := by show _ = _; simp [upT, hin]
    have HW1 : Hid _ := fun w' => HW.out w'
    simp only [hin] at HW1
    clear hin HDN HD HRT HW
    obtain ⟨x, y, z⟩ := n
    unfold Pt.v at *
    dsimp only at *
    go_enter Tryz.func143, Tryz.ntmps143
    go_wp2_with (fail)
    refine Calls.mono (HW1.out _) ?_
    rintro e V ⟨rfl, hb⟩
    have hB : Hid _ := b_step (n_after w _) hb
    clear hb
    go_wp2_with (fail)
    exact bodyPost_ret (v := .tuple #[.int .i64 0, .int .i64 0]) (by simp [results, Tryz.results143, go_sem]) rfl ⟨by rw [HT1.out, HT2.out], hB.out⟩


set_option maxHeartbeats 4000000 in
set_option maxRecDepth 100000 in
theorem nends_any (n : Pt) (P : List Pt) (v : Value) (w0 : World) (hv : Lies w0 v P) (h0 : 0 < P.length) (hn : n.inB 67108864 = true) (hP : ∀ p ∈ P, p.inB 67108864 = true) :
    Calls Tryz.prog 142 #[v, n.v] w0 fun e W => e = .returned (.tuple #[.int .i64 (loP n P), .int .i64 (hiP n P)]) ∧ Below w0.heap.size w0 W := by
  have HV : Hid _ := hv
  obtain ⟨o, cap, rfl, hlc, hcm, hcell⟩ := hv.form
  have HD : Hid _ := fun (i : Nat) (hi : i < P.length) w' => ndot_any n (pt P i) w' (inB_mono hn (by decide)) (inB_mono (hP _ (pt_mem hi)) (by decide))
  obtain ⟨g, off, rfl, x0, x1, x2⟩ := hcell 0 h0
  have hne : ¬ P = [] := fun e => by rw [e] at h0; simp at h0
  have HD0 : Hid _ := fun w' => HD.out 0 h0 w'
  have HLO : Hid (∀ k, loK n P (k + 1) = if n.dot (pt P (k + 1)) < loK n P k then n.dot (pt P (k + 1)) else loK n P k) := fun k => by show min _ _ = _; omega
  have HHI : Hid (∀ k, hiK n P (k + 1) = if hiK n P k < n.dot (pt P (k + 1)) then n.dot (pt P (k + 1)) else hiK n P k) := fun k => by show max _ _ = _; omega
  have HLF : Hid (loP n P = loK n P (P.length - 1)) := rfl
  have HHF : Hid (hiP n P = hiK n P (P.length - 1)) := rfl
  have HL0 : Hid (n.dot (pt P 0) = loK n P 0) := rfl
  have HH0 : Hid (hiK n P 0 = loK n P 0) := rfl
  clear hv hn hP
  rw [show off + 0 * 3 = off by omega] at x0 x1 x2
  obtain ⟨nx, ny, nz⟩ := n
  obtain ⟨V, hV⟩ : ∃ V, V = w0.alloc (.cells #[.int .i64 nx, .int .i64 ny, .int .i64 nz] 23) := ⟨_, rfl⟩
  obtain ⟨nb, hnb⟩ : ∃ b, b = w0.heap.size := ⟨_, rfl⟩
  have B3 : Hid (Box3 V nb ⟨nx, ny, nz⟩) := by show Box3 _ _ _; rw [hV, hnb]; exact Box3.new _ _ _ _ _
  have hB : Hid (Below w0.heap.size w0 V) := by show Below _ _ _; rw [hV]; exact n_after _ _
  have c0 := c_after hB.out x0
  have c1 := c_after hB.out x1
  have c2 := c_after hB.out x2
  have HV : Hid _ := HV.out.below hB.out
  clear x0 x1 x2 hcell
  rw [HL0.out] at HD0
  obtain ⟨dq0, hd0⟩ : ∃ d, d = loK ⟨nx, ny, nz⟩ P 0 := ⟨_, rfl⟩
  rw [← hd0] at HD0 HH0
  have HE0 : Hid _ := hd0
  clear hd0 HL0
  unfold Pt.v at *
  generalize (pt P 0).x = ax at *
  generalize (pt P 0).y = ay at *
  generalize (pt P 0).z = az at *
  dsimp only at *
  go_enter Tryz.func142, Tryz.ntmps142
  go_upto_region 1 with fail
  rw [← hV, ← hnb]
  clear hV hnb
  obtain ⟨b0_, b1_, b2_, _, _, _⟩ := B3.out
  go_cut [4] from 9 to 13 (fun s4 wx => s4 = .int .i64 dq0 ∧ Hid (Below V.heap.size V wx))
  case first =>
    refine RV.region_is [.some (.agg #[.int .i64 (nx), .int .i64 (ny), .int .i64 (nz)]), .some (.slice (some ⟨g, off, none⟩) P.length cap), .some (.pointer (some ⟨g, off, none⟩)), .some (.agg #[.int .i64 (ax), .int .i64 (ay), .int .i64 (az)]), .some (.int .i64 (dq0)), .some (.int .i64 (dq0))] [10, 11, 12, 13, 14, 5] [(0, .slice (some ⟨g, off, none⟩) P.length cap), (3, .pointer (some ⟨nb, 0, none⟩))] (fun γ L w9 => Below V.heap.size V w9) (by kernel_rfl) (by kernel_rfl) (by kernel_rfl) (by kernel_rfl) (by kernel_rfl) (by kernel_rfl) (by kernel_rfl) ⟨rfl, rfl, trivial⟩ ?_ ?_ ?_
    · exact (Below.refl _ V).drew
    · intro D WA Z hD hWA hZ T
      simp only [RV.Outs, RV.Slots, Nat.reduceAdd] at T
      iterate 4 first
        | (refine RV.AllDo.cons _ (RV.pu T (fun γ v L w hl h => h) (fun γ L a w hH hl h9 k9 => ⟨_, ?_, rfl⟩)) ?_; · simp [execOp, go_sem, h9])
        | (refine RV.AllDo.cons _ (RV.pu T (fun γ v L w hl h => h) (fun γ L a w hH hl h9 k9 => ⟨_, ?_, rfl⟩)) ?_; · simp [Region.binds] at k9; simp [execOp, go_sem, h9, k9, hne])
        | (refine RV.AllDo.cons _ (RV.pu T (fun γ v L w hl h => h) (fun γ L a w hH hl h9 k9 => ⟨_, ?_, rfl⟩)) ?_; · have hB9 := hH.glob; have q0 := c_after hB9 b0_; have q1 := c_after hB9 b1_; have q2 := c_after hB9 b2_; simp [execOp, go_sem, h9, q0, q1, q2])
        | (refine RV.AllDo.cons _ (RV.pu T (fun γ v L w hl h => h) (fun γ L a w hH hl h9 k9 => ⟨_, ?_, rfl⟩)) ?_; · have hB9 := hH.glob; have q0 := c_after hB9 c0; have q1 := c_after hB9 c1; have q2 := c_after hB9 c2; simp [Region.binds] at k9; simp [execOp, go_sem, h9, k9, q0, q1, q2])
      refine RV.AllDo.cons _ (RV.does_call (fun γ L a w hH hl hA => by have h9 := T γ L a w hH; have k9 := hA; simp [Region.binds] at k9; have hB9 := hH.glob; exact ⟨163, #[.agg #[.int .i64 (nx), .int .i64 (ny), .int .i64 (nz)], .agg #[.int .i64 (ax), .int .i64 (ay), .int .i64 (az)]], by simp [go_sem, h9, k9], Calls.mono (HD0.out w) (by rintro e w2 ⟨rfl, hb⟩; exact ⟨_, rfl, rfl, fun j v _ h => h.keep _, hB9.trans (hb.mono hB9.size)⟩)⟩)) ?_
      (refine RV.AllDo.cons _ (RV.pu T (fun γ v L w hl h => h) (fun γ L a w hH hl h9 k9 => ⟨_, ?_, rfl⟩)) ?_; · simp [Region.binds] at k9; simp [execOp, go_sem, h9, k9])
      exact RV.AllDo.nil
    · intro γ w5 L9 hL hI9 hG9
      have hb8 := hG9
      clear hL hI9 hG9
      simp only [RV.putL, Act.put, List.setIfInBounds_toArray, List.set_cons_zero, List.set_cons_succ]
      have HZ : Hid _ := hb8
      go_wp2_with (fail)
      go_meet
      case rel => exact ⟨rfl, HZ⟩
  case rest =>
    obtain ⟨rfl, HZ⟩ := hcut
    have B3 : Hid _ := Box3.step B3.out HZ.out
    have HV : Hid _ := Lies.below HV.out HZ.out
    have hB : Hid _ := b_step hB.out HZ.out
    clear HZ c0 c1 c2 b0_ b1_ b2_ HD0
    obtain ⟨X, hX⟩ : ∃ X : World, X = wc := ⟨_, rfl⟩
    rw [← hX] at B3 HV hB ⊢
    clear hX
    by_cases hc1 : cap = 1
    · have hl1 : P.length = 1 := by omega
      have HK : Hid (P.length - 1 = 0) := by show _ = _; omega
      rw [HK.out] at HLF HHF
      have HL1 : Hid _ := hl1
      subst hc1
      clear hne
      obtain ⟨pl, hpl⟩ : ∃ n, n = P.length := ⟨_, rfl⟩
      have e1 : pl = 1 := by rw [hpl]; exact hl1
      rw [← hpl]
      subst e1
      clear hl1
      go_wp2_with (fail)
      go_loopg [4, 5, 18] 1 (fun gm s4 s5 s18 wr => s4 = .int .i64 dq0 ∧ s5 = .int .i64 dq0 ∧ s18 = .int .i64 0 ∧ wr = X)
      case atStart => exact ⟨rfl, rfl, rfl, rfl⟩
      case round =>
        obtain ⟨rfl, rfl, rfl, rfl⟩ := hrel
        go_wp2_with (fail)
        exact bodyPost_ret (v := .tuple #[.int .i64 dq0, .int .i64 dq0]) (by simp [results, Tryz.results142, go_sem]) rfl ⟨by rw [HLF.out, HHF.out, HH0.out, ← HE0.out], hB.out⟩
    · have hw : IntKind.i64.wrap ((P.length : Int) - 1) = ((P.length - 1 : Nat) : Int) := by rw [IntKind.wrap_i64]; omega
      have hpl : P.length - 1 ≤ cap - 1 := by omega
      have hcc : cap - 1 ≤ 9223372036854775807 := by omega
      obtain ⟨m, hm⟩ : ∃ m, m = P.length - 1 := ⟨_, rfl⟩
      have HM : Hid _ := hm
      have HCE : Hid (∀ i, i < m → ∃ x y z, pt P (i + 1) = ⟨x, y, z⟩ ∧ X.cell? ⟨g, off + 3 + i * 3, none⟩ = some (.int .i64 x) ∧ X.cell? ⟨g, off + 3 + i * 3 + 1, none⟩ = some (.int .i64 y) ∧ X.cell? ⟨g, off + 3 + i * 3 + 2, none⟩ = some (.int .i64 z)) := fun i hi => by
        obtain ⟨o5, c5, e5, _, _, h5⟩ := HV.out.form
        simp only [Value.slice.injEq, true_and] at e5
        obtain ⟨e6, _⟩ := e5
        obtain ⟨g9, o9, e9, y0, y1, y2⟩ := h5 (i + 1) (by omega)
        rw [← e6] at e9
        cases e9
        rw [show off + (i + 1) * 3 = off + 3 + i * 3 by omega] at y0 y1 y2
        exact ⟨_, _, _, rfl, y0, y1, y2⟩
      go_upto_region 4 with fail
      rw [← hm] at hpl ⊢
      clear hm hw hne
      go_loopg [4, 5, 18] m (fun gm s4 s5 s18 wr => ∃ (i : Nat) (lo hi : Int), s4 = .int .i64 lo ∧ s5 = .int .i64 hi ∧ s18 = .int .i64 (i : Int) ∧ i ≤ m ∧ gm = m - i ∧ Hid (lo = loK ⟨nx, ny, nz⟩ P i) ∧ Hid (hi = hiK ⟨nx, ny, nz⟩ P i) ∧ Hid (Below X.heap.size X wr))
      case atStart => exact ⟨0, dq0, dq0, rfl, rfl, rfl, Nat.zero_le _, rfl, HE0, HH0.out.symm, Below.refl _ _⟩
      case round =>
        obtain ⟨i, lo, hi, rfl, rfl, rfl, hi9, hgm, HLK, HHK, HB⟩ := hrel
        have HG1 : Hid _ := hgm
        clear hgm
        by_cases hit : i < m
        · obtain ⟨ex, ey, ez, hpt, y0, y1, y2⟩ := HCE.out i hit
          have y0 := c_after HB.out y0
          have y1 := c_after HB.out y1
          have y2 := c_after HB.out y2
          have HDi : Hid _ := fun w' => HD.out (i + 1) (by have := HM.out; omega) w'
          have HL1 : Hid _ := HLO.out i
          have HH1 : Hid _ := HHI.out i
          rw [← HLK.out] at HL1
          rw [← HHK.out] at HH1
          rw [hpt] at HDi HL1 HH1
          clear hpt
          dsimp only at HDi
          generalize Pt.dot ⟨nx, ny, nz⟩ ⟨ex, ey, ez⟩ = dt at *
          have b0_ := (Box3.step B3.out HB.out).c0
          have b1_ := (Box3.step B3.out HB.out).c1
          have b2_ := (Box3.step B3.out HB.out).c2
          dsimp only at b0_ b1_ b2_
          obtain ⟨l2, hl2⟩ : ∃ v, (if dt < lo then dt else lo) = v := ⟨_, rfl⟩
          obtain ⟨h2, hh2⟩ : ∃ v, (if hi < dt then dt else hi) = v := ⟨_, rfl⟩
          rw [hl2] at HL1
          rw [hh2] at HH1
          have hnr : nb < wr.heap.size := World.block_lt_of_cell? _ _ b0_
          go_wp2_with (fail)
          refine Calls.mono (HDi.out _) ?_
          rintro e V5 ⟨rfl, hb⟩
          have HB2 : Hid _ := b_step HB.out (b_step (n_after _ _) hb)
          clear hb y0 y1 y2 b0_ b1_ b2_
          go_wp2_with (fail)
          go_roundg (m - (i + 1))
          case rel => exact ⟨i + 1, _, _, rfl, rfl, by simp, by omega, rfl, HL1.out.symm, HH1.out.symm, HB2⟩
          case measure => have := HG1.out; omega
        · obtain rfl : i = m := by omega
          have HF1 : Hid (loP ⟨nx, ny, nz⟩ P = lo) := by show _ = _; rw [HLF.out, HLK.out, HM.out]
          have HF2 : Hid (hiP ⟨nx, ny, nz⟩ P = hi) := by show _ = _; rw [HHF.out, HHK.out, HM.out]
          go_wp2_with (fail)
          exact bodyPost_ret (v := .tuple #[.int .i64 lo, .int .i64 hi]) (by simp [results, Tryz.results142, go_sem]) rfl ⟨by rw [HF1.out, HF2.out], b_step hB.out HB.out⟩
end Go.Proofs.YtbhdfjoagajipaaGreat
namespace Go.Proofs.YtbhdfjoagajipaaGreat
open Go.RowKit Go.Shelf
open Fx (isq isq_is isq_of)
set_option linter.unusedVariables false

theorem lng_far {p : Pt} (h : p.lng ≠ Pt.O) : p.lng.inB 1048576 = true ∧ 524288 ≤ dn p.lng := by
  rcases lng_is p with e | ⟨h1, h2⟩
  · exact absurd e h
  · refine ⟨h1, ?_⟩
    generalize p.lng = n at *
    have h9 := (Pt.inB_no n 524288).1 h2
    obtain ⟨k0, k1, k2⟩ := dn_is n
    apply Int.not_lt.1
    intro hlt
    have hs : (dn n + 1) * (dn n + 1) ≤ 524288 * 524288 := Int.mul_le_mul (by omega) (by omega) (by omega) (by decide)
    have q1 := sq0 n.x
    have q2 := sq0 n.y
    have q3 := sq0 n.z
    have big : ∀ x : Int, ¬ (-524288 ≤ x ∧ x ≤ 524288) → 524288 * 524288 < x * x := fun x hx => by
      rcases Int.lt_or_le 0 x with h | h
      · have := Int.mul_le_mul (show (524289 : Int) ≤ x by omega) (show (524289 : Int) ≤ x by omega) (by decide) (by omega)
        omega
      · have := Int.mul_le_mul (show (524289 : Int) ≤ -x by omega) (show (524289 : Int) ≤ -x by omega) (by decide) (by omega)
        rw [Int.neg_mul_neg] at this
        omega
    unfold Pt.dot at k2
    by_cases hx : -524288 ≤ n.x ∧ n.x ≤ 524288
    · by_cases hy : -524288 ≤ n.y ∧ n.y ≤ 524288
      · have := big n.z (fun hz => h9 ⟨hx, hy, hz⟩); omega
      · have := big n.y hy; omega
    · have := big n.x hx; omega

set_option maxHeartbeats 2000000 in
set_option maxRecDepth 100000 in
theorem nlong_any (p0 : Pt) (w0 : World) :
    Calls Tryz.prog 140 #[p0.v] w0 fun e W => e = .returned p0.lng.v ∧ Below w0.heap.size w0 W := by
  have HS : Hid _ := fun w' => short_any p0 w'
  have HX : Hid (∀ q : Pt, ∀ w', Calls Tryz.prog 156 #[q.v, .int .i64 524288] w' fun e W => e = .returned (.bool (q.inB 524288)) ∧ Below w'.heap.size w' W) := fun q w' => nwithin_any q 524288 w' (by decide) (by decide)
  have HP : Hid (∀ q : Pt, q.inB 524288 = true → ∀ w', Calls Tryz.prog 162 #[q.v, q.v] w' fun e W => e = .returned q.dbl.v ∧ Below w'.heap.size w' W) := fun q h w' => nplus_any q w' (inB_mono h (by decide))
  have HL : Hid (p0.lng = if p0.short = Pt.O then Pt.O else lngF 20 p0.short) := rfl
  have HI0 := short_in p0
  have bx0 : Hid (Box3 ((w0.alloc (.cells #[.int .i64 p0.x, .int .i64 p0.y, .int .i64 p0.z] 23)).alloc (.cells #[.int .i64 0, .int .i64 0, .int .i64 0] 23)) w0.heap.size p0) := (Box3.new w0 p0.x p0.y p0.z _).step (n_after _ _)
  have bx1 : Hid (Box3 ((w0.alloc (.cells #[.int .i64 p0.x, .int .i64 p0.y, .int .i64 p0.z] 23)).alloc (.cells #[.int .i64 0, .int .i64 0, .int .i64 0] 23)) (w0.heap.size + 1) Pt.O) := by have := Box3.new (w0.alloc (.cells #[.int .i64 p0.x, .int .i64 p0.y, .int .i64 p0.z] 23)) 0 0 0 23; rwa [World.size_alloc] at this
  have hB0 : Hid (Below w0.heap.size w0 ((w0.alloc (.cells #[.int .i64 p0.x, .int .i64 p0.y, .int .i64 p0.z] 23)).alloc (.cells #[.int .i64 0, .int .i64 0, .int .i64 0] 23))) := b_step (n_after w0 _) (n_after _ _)
  generalize p0.short = p at *
  generalize p0.lng = r at *
  obtain ⟨px, py, pz⟩ := p0
  obtain ⟨W0, hW0⟩ : ∃ W0, W0 = ((w0.alloc (.cells #[.int .i64 px, .int .i64 py, .int .i64 pz] 23)).alloc (.cells #[.int .i64 0, .int .i64 0, .int .i64 0] 23)) := ⟨_, rfl⟩
  dsimp only at bx0 bx1 hB0
  rw [← hW0] at bx0 bx1 hB0
  obtain ⟨c0, c1, c2, _, _, _⟩ := bx0.out
  unfold Pt.v at *
  dsimp only at *
  go_enter Tryz.func140, Tryz.ntmps140
  go_upto_region 1 with fail
  rw [← hW0]
  clear hW0
  go_wp2_with (fail)
  refine Calls.mono (HS.out _) ?_
  clear HS
  rintro e V ⟨rfl, hb⟩
  have bx0 : Hid (Box3 V w0.heap.size ⟨px, py, pz⟩) := bx0.out.step hb
  have bx2 : Hid (Box3 V (w0.heap.size + 1) Pt.O) := bx1.out.step hb
  have hB2 : Hid _ := b_step hB0.out hb
  clear hb c0 c1 c2 bx1 hB0
  obtain ⟨c0, c1, c2, f0, f1, f2⟩ := bx0.out
  dsimp only at c0 c1 c2
  obtain ⟨sx, sy, sz⟩ := p
  dsimp only at *
  go_upto_region 2 with fail
  have bx1 : Hid (Box3 (set3 V w0.heap.size sx sy sz) w0.heap.size ⟨sx, sy, sz⟩) := bx0.out.set _ _ _
  have bx2 : Hid (Box3 (set3 V w0.heap.size sx sy sz) (w0.heap.size + 1) Pt.O) := bx2.out.other (by omega) _ _ _
  have hB2 : Hid (Below w0.heap.size w0 (set3 V w0.heap.size sx sy sz)) := set3_below hB2.out (Nat.le_refl _) _ _ _
  unfold set3 at bx1 bx2 hB2
  generalize ((V.setCell ⟨w0.heap.size, 0, none⟩ (.int .i64 sx)).setCell ⟨w0.heap.size, 1, none⟩ (.int .i64 sy)).setCell ⟨w0.heap.size, 2, none⟩ (.int .i64 sz) = W1 at *
  clear c0 c1 c2 f0 f1 f2 bx0
  obtain ⟨c0, c1, c2, f0, f1, f2⟩ := bx1.out
  dsimp only at c0 c1 c2
  by_cases hz : (⟨sx, sy, sz⟩ : Pt) = Pt.O
  · have e9 : r = Pt.O := by rw [HL.out, if_pos hz]
    subst e9
    have e3 : sx = 0 ∧ sy = 0 ∧ sz = 0 := by simpa [Pt.O] using hz
    obtain ⟨rfl, rfl, rfl⟩ := e3
    clear HL hz
    obtain ⟨c3, c4, c5, f3, f4, f5⟩ := bx2.out
    simp only [Pt.O] at c3 c4 c5
    go_wp2_with (fail)
    refine bodyPost_ret (v := .agg #[.int .i64 0, .int .i64 0, .int .i64 0]) (by simp [results, Tryz.results140, go_sem, c3, c4, c5]) rfl ⟨rfl, ?_⟩
    exact set3_below hB2.out (by omega) 0 0 0
  · have HR : Hid (r = lngF 20 ⟨sx, sy, sz⟩) := by show _ = _; rw [HL.out, if_neg hz]
    have HB0 : Hid (Pt.far ⟨sx, sy, sz⟩ (20 - 20)) := far_zero hz
    have hz3 : sx = 0 → sy = 0 → ¬ sz = 0 := fun a b c => hz (by rw [a, b, c]; rfl)
    clear HL hz HI0
    go_cut [7] from 4 (fun s7 wx => s7 = .bool false ∧ wx = W1)
    case first =>
      go_wp2_with (fail)
      all_goals first
        | (exfalso; exact hz3 (by assumption) (by assumption) (by assumption))
        | (go_meet; case rel => exact ⟨rfl, rfl⟩)
    case rest =>
      obtain ⟨rfl, e9⟩ := hcut
      subst e9
      clear hz3 c0 c1 c2 f0 f1 f2
      go_wp2_with (fail)
      go_loopg [] 20 (fun g wr => ∃ q : Pt, Hid (Box3 wr w0.heap.size q) ∧ Hid (Box3 wr (w0.heap.size + 1) Pt.O) ∧ Hid (Below w0.heap.size w0 wr) ∧ g ≤ 20 ∧ Hid (lngF g q = lngF 20 ⟨sx, sy, sz⟩) ∧ Hid (q.far (20 - g)))
      case atStart => exact ⟨_, bx1, bx2, hB2, Nat.le_refl _, rfl, HB0⟩
      case round =>
        clear bx1 bx2 hB2 HB0
        obtain ⟨q, b0, b1, hB, hg, HF, HI⟩ := hrel
        have hG : Hid _ := hg
        clear hg
        obtain ⟨c0, c1, c2, f0, f1, f2⟩ := b0.out
        go_wp2_with (fail)
        refine Calls.mono (HX.out q _) ?_
        rintro e V3 ⟨rfl, hb⟩
        clear c0 c1 c2 f0 f1 f2
        have b0 : Hid _ := b0.out.step hb
        have b1 : Hid _ := b1.out.step hb
        have hB : Hid _ := b_step hB.out hb
        clear hb
        cases hq : q.inB 524288 with
        | true =>
          have h1g := far_lt hq HI.out
          obtain ⟨g', hg'⟩ : ∃ g', gk = g' + 1 := ⟨gk - 1, by omega⟩
          subst hg'
          have HJ1 : Hid _ := lngF_step (g := g') hq
          have HJ2 : Hid (q.dbl.far (20 - g')) := by have h5 := far_dbl HI.out; rwa [show 20 - (g' + 1) + 1 = 20 - g' by have := hG.out; omega] at h5
          have HP2 : Hid _ := HP.out q hq
          clear h1g
          obtain ⟨c0, c1, c2, f0, f1, f2⟩ := b0.out
          go_wp2_with (fail)
          refine Calls.mono (HP2.out _) ?_
          rintro e V4 ⟨rfl, hb⟩
          clear HP2
          have b9 : Hid (Box3 (set3 V4 w0.heap.size q.dbl.x q.dbl.y q.dbl.z) w0.heap.size q.dbl) := (b0.out.step hb).set _ _ _
          have b8 : Hid (Box3 (set3 V4 w0.heap.size q.dbl.x q.dbl.y q.dbl.z) (w0.heap.size + 1) Pt.O) := (b1.out.step hb).other (by omega) _ _ _
          have hB9 : Hid (Below w0.heap.size w0 (set3 V4 w0.heap.size q.dbl.x q.dbl.y q.dbl.z)) := set3_below (b_step hB.out hb) (Nat.le_refl _) _ _ _
          have d0 := c_after hb c0
          have d1 := c_after hb c1
          have d2 := c_after hb c2
          have f0 := f_after hb c0 f0
          have f1 := f_after hb c1 f1
          have f2 := f_after hb c2 f2
          unfold set3 at b9 b8 hB9
          clear hb c0 c1 c2 b0 b1 hB
          go_wp2_with (fail)
          go_roundg g'
          case rel => exact ⟨q.dbl, b9, b8, hB9, by have := hG.out; omega, by show _ = _; rw [← HJ1.out]; exact HF.out, HJ2⟩
          case measure => omega
        | false =>
          have e9 : r = q := by rw [HR.out, ← HF.out, lngF_stop hq]
          subst e9
          obtain ⟨c0, c1, c2, f0, f1, f2⟩ := b0.out
          obtain ⟨c3, c4, c5, f3, f4, f5⟩ := b1.out
          simp only [Pt.O] at c3 c4 c5
          go_wp2_with (fail)
          refine bodyPost_ret (v := .agg #[.int .i64 r.x, .int .i64 r.y, .int .i64 r.z]) (by simp [results, Tryz.results140, go_sem, c3, c4, c5]) rfl ⟨rfl, ?_⟩
          exact set3_below hB.out (by omega) r.x r.y r.z
end Go.Proofs.YtbhdfjoagajipaaGreat
namespace Go.Proofs.YtbhdfjoagajipaaGreat
open Go.RowKit Go.Shelf
set_option linter.unusedVariables false

def coreA (pv av ev : Value) (r : Int) : Value := .agg #[pv, av, ev, .int .i64 r]
theorem Cells4.new (w : World) (a b c : Value) (r : Int) (t : TypeId) : (w.alloc (.cells #[a, b, c, .int .i64 r] t)).cell? ⟨w.heap.size, 0, none⟩ = some a ∧ (w.alloc (.cells #[a, b, c, .int .i64 r] t)).cell? ⟨w.heap.size, 1, none⟩ = some b ∧ (w.alloc (.cells #[a, b, c, .int .i64 r] t)).cell? ⟨w.heap.size, 2, none⟩ = some c ∧ (w.alloc (.cells #[a, b, c, .int .i64 r] t)).cell? ⟨w.heap.size, 3, none⟩ = some (.int .i64 r) := by simp [go_sem]

set_option maxHeartbeats 4000000 in
set_option maxRecDepth 100000 in
theorem nmay_any (c : Cr) (pv av ev : Value) (w0 : World) (hp : Lies w0 pv c.P) (ha : Lies w0 av c.A) (he : Lies w0 ev c.E) :
    Calls Tryz.prog 109 #[coreA pv av ev c.r] w0 fun e W => e = .returned (.bool (mayC c)) ∧ Below w0.heap.size w0 W := by
  obtain ⟨P, A, E, r⟩ := c
  dsimp only at *
  obtain ⟨o, cap, rfl, hlc, hcm, _⟩ := hp.form
  obtain ⟨o2, cap2, rfl, _, _, _⟩ := ha.form
  obtain ⟨o3, cap3, rfl, _, _, _⟩ := he.form
  have H1 : Hid _ := fun w' => nbetween_any (P.length : Int) 1 32 w'
  have H2 : Hid _ := fun (w' : World) (h : Below w0.heap.size w0 w') => nall_any P 16777216 _ w' (hp.below h) (by decide) (by decide)
  have H3 : Hid _ := fun (w' : World) (h : Below w0.heap.size w0 w') => ndir_any A _ w' (ha.below h)
  have H4 : Hid _ := fun (w' : World) (h : Below w0.heap.size w0 w') => ndir_any E _ w' (he.below h)
  have H5 : Hid _ := fun w' => nbetween_any r 0 65536 w'
  have HM : Hid (mayC ⟨P, A, E, r⟩ = (decide (1 ≤ P.length ∧ P.length ≤ 32) && P.all (·.inB 16777216) && (decide (A.length ≤ 128) && A.all (·.inB 1048576)) && (decide (E.length ≤ 128) && E.all (·.inB 1048576)) && decide (0 ≤ r ∧ r ≤ 65536))) := rfl
  have e1 : decide (1 ≤ (P.length : Int) ∧ (P.length : Int) ≤ 32) = decide (1 ≤ P.length ∧ P.length ≤ 32) := by simp only [decide_eq_decide]; omega
  rw [e1] at H1
  clear hp ha he e1
  generalize decide (1 ≤ P.length ∧ P.length ≤ 32) = k1 at *
  generalize P.all (·.inB 16777216) = k2 at *
  generalize (decide (A.length ≤ 128) && A.all (·.inB 1048576)) = k3 at *
  generalize (decide (E.length ≤ 128) && E.all (·.inB 1048576)) = k4 at *
  generalize decide (0 ≤ r ∧ r ≤ 65536) = k5 at *
  unfold coreA at *
  go_enter Tryz.func109, Tryz.ntmps109
  obtain ⟨V, hV⟩ : ∃ V, V = w0.alloc (.cells #[.slice o P.length cap, .slice o2 A.length cap2, .slice o3 E.length cap3, .int .i64 r] 35) := ⟨_, rfl⟩
  obtain ⟨cb, hcb⟩ : ∃ b, b = w0.heap.size := ⟨_, rfl⟩
  have HB : Hid (Below w0.heap.size w0 V) := by show Below _ _ _; rw [hV]; exact n_after _ _
  have HC : Hid _ := Cells4.new w0 (.slice o P.length cap) (.slice o2 A.length cap2) (.slice o3 E.length cap3) r 35
  rw [← hV, ← hcb] at HC
  go_upto_region 1 with fail
  rw [← hV, ← hcb]
  clear hV hcb
  have q0 := HC.out.1
  go_wp2_with (fail)
  refine Calls.mono (H1.out _) ?_
  rintro e V1 ⟨rfl, rfl⟩
  cases k1 with
  | false =>
    go_wp2_with (fail)
    go_ret
    exact ⟨by rw [HM.out]; rfl, HB.out⟩
  | true =>
    go_wp2_with (fail)
    refine Calls.mono (H2.out _ HB.out) ?_
    rintro e V2 ⟨rfl, hb⟩
    have q1 := c_after hb HC.out.2.1
    have q2 := c_after hb HC.out.2.2.1
    have q3 := c_after hb HC.out.2.2.2
    have HB : Hid _ := b_step HB.out hb
    clear hb q0 HC
    cases k2 with
    | false =>
      go_wp2_with (fail)
      go_ret
      exact ⟨by rw [HM.out]; rfl, HB.out⟩
    | true =>
      go_wp2_with (fail)
      refine Calls.mono (H3.out _ HB.out) ?_
      rintro e V3 ⟨rfl, hb⟩
      have q2 := c_after hb q2
      have q3 := c_after hb q3
      have HB : Hid _ := b_step HB.out hb
      clear hb q1
      cases k3 with
      | false =>
        go_wp2_with (fail)
        go_ret
        exact ⟨by rw [HM.out]; rfl, HB.out⟩
      | true =>
        go_wp2_with (fail)
        refine Calls.mono (H4.out _ HB.out) ?_
        rintro e V4 ⟨rfl, hb⟩
        have q3 := c_after hb q3
        have HB : Hid _ := b_step HB.out hb
        clear hb
        cases k4 with
        | false =>
          go_wp2_with (fail)
          go_ret
          exact ⟨by rw [HM.out]; rfl, HB.out⟩
        | true =>
          go_wp2_with (fail)
          refine Calls.mono (H5.out _) ?_
          rintro e V5 ⟨rfl, rfl⟩
          go_wp2_with (fail)
          go_ret
          exact ⟨by rw [HM.out]; rfl, HB.out⟩

theorem gap_rng {P Q : List Pt} {n : Pt} (h0 : 0 < P.length) (h1 : 0 < Q.length) (hP : ∀ p ∈ P, p.inB 16777216 = true) (hQ : ∀ p ∈ Q, p.inB 16777216 = true) (hn : n.inB 1048576 = true) :
    (-52776558133248 ≤ loP n Q ∧ loP n Q ≤ 52776558133248) ∧ (-52776558133248 ≤ hiP n P ∧ hiP n P ≤ 52776558133248) :=
  ⟨loK_in hn hQ (by decide) _ (by omega), hiK_in hn hP (by decide) _ (by omega)⟩
theorem tdiv_rng {a b C : Int} (h : 0 ≤ a ∧ a ≤ C) (hb : 0 < b) : 0 ≤ a.tdiv b ∧ a.tdiv b ≤ C := by
  rw [Int.tdiv_eq_ediv_of_nonneg h.1]
  refine ⟨Int.ediv_nonneg h.1 (by omega), ?_⟩
  have := Int.ediv_le_self (a := a) b h.1
  omega
set_option maxHeartbeats 4000000 in
set_option maxRecDepth 100000 in
theorem ngap_any (a b : Cr) (n : Pt) (pv av ev qv bv fv : Value) (w0 : World) (hp : Lies w0 pv a.P) (ha : Lies w0 av a.A) (he : Lies w0 ev a.E) (hq : Lies w0 qv b.P) (hb : Lies w0 bv b.A) (hf : Lies w0 fv b.E)
    (h0 : 0 < a.P.length) (h1 : 0 < b.P.length) (hP : ∀ p ∈ a.P, p.inB 16777216 = true) (hQ : ∀ p ∈ b.P, p.inB 16777216 = true) (hr : 0 ≤ a.r ∧ a.r ≤ 65536) (hs : 0 ≤ b.r ∧ b.r ≤ 65536) (hn : n.inB 1048576 = true) (hd : 0 < dn n) :
    Calls Tryz.prog 111 #[coreA pv av ev a.r, coreA qv bv fv b.r, n.v] w0 fun e W => e = .returned (.int .i64 (gapZ a.P b.P a.r b.r n)) ∧ Below w0.heap.size w0 W := by
  obtain ⟨P, A, E, r⟩ := a
  obtain ⟨Q, B, F, s⟩ := b
  dsimp only at *
  obtain ⟨o, cap, rfl, hlc, hcm, _⟩ := hp.form
  obtain ⟨o2, cap2, rfl, _, _, _⟩ := ha.form
  obtain ⟨o3, cap3, rfl, _, _, _⟩ := he.form
  obtain ⟨o4, cap4, rfl, _, _, _⟩ := hq.form
  obtain ⟨o5, cap5, rfl, _, _, _⟩ := hb.form
  obtain ⟨o6, cap6, rfl, _, _, _⟩ := hf.form
  have HE1 : Hid _ := fun (w' : World) (h : Below w0.heap.size w0 w') => nends_any n P _ w' (hp.below h) h0 (inB_mono hn (by decide)) (fun p h => inB_mono (hP p h) (by decide))
  have HE2 : Hid _ := fun (w' : World) (h : Below w0.heap.size w0 w') => nends_any n Q _ w' (hq.below h) h1 (inB_mono hn (by decide)) (fun p h => inB_mono (hQ p h) (by decide))
  have HS : Hid _ := fun w' => nsizes_any n w'
  have hin : n.inB 16777216 = true := inB_mono hn (by decide)
  have e1 : dnT n = dn n := by simp [dnT, hin]
  have e2 : upT n = up n := by simp [upT, hin]
  rw [e1, e2] at HS
  have hu : up n = dn n ∨ up n = dn n + 1 := by unfold up; split <;> simp
  have hdr := dn_rng hin
  obtain ⟨g1, g2⟩ := gap_rng h0 h1 hP hQ hn
  have HG : Hid (gapZ P Q r s n = (if 0 ≤ loP n Q - hiP n P then (loP n Q - hiP n P).tdiv (up n) else -((dn n - 1 - (loP n Q - hiP n P)).tdiv (dn n))) - r - s) := rfl
  clear hp ha he hq hb hf hin e1 e2 hP hQ hn h0 h1
  generalize loP n Q = lo at *
  generalize hiP n P = hi at *
  generalize dn n = d at *
  generalize up n = u at *
  generalize gapZ P Q r s n = res at *
  generalize loP n P = lo' at *
  generalize hiP n Q = hi' at *
  obtain ⟨nx, ny, nz⟩ := n
  unfold coreA Pt.v at *
  dsimp only at *
  obtain ⟨V, hV⟩ : ∃ V, V = ((w0.alloc (.cells #[.slice o P.length cap, .slice o2 A.length cap2, .slice o3 E.length cap3, .int .i64 r] 35)).alloc (.cells #[.slice o4 Q.length cap4, .slice o5 B.length cap5, .slice o6 F.length cap6, .int .i64 s] 35)).alloc (.cells #[.int .i64 nx, .int .i64 ny, .int .i64 nz] 23) := ⟨_, rfl⟩
  obtain ⟨cb, hcb⟩ : ∃ b, b = w0.heap.size := ⟨_, rfl⟩
  have HB : Hid (Below w0.heap.size w0 V) := by show Below _ _ _; rw [hV]; exact b_step (b_step (n_after _ _) (n_after _ _)) (n_after _ _)
  have HC : Hid (V.cell? ⟨cb, 0, none⟩ = some (.slice o P.length cap) ∧ V.cell? ⟨cb, 3, none⟩ = some (.int .i64 r) ∧ V.cell? ⟨cb + 1, 0, none⟩ = some (.slice o4 Q.length cap4) ∧ V.cell? ⟨cb + 1, 3, none⟩ = some (.int .i64 s) ∧ V.cell? ⟨cb + 1 + 1, 0, none⟩ = some (.int .i64 nx) ∧ V.cell? ⟨cb + 1 + 1, 1, none⟩ = some (.int .i64 ny) ∧ V.cell? ⟨cb + 1 + 1, 2, none⟩ = some (.int .i64 nz)) := by
    show _ ∧ _
    rw [hV, hcb]
    simp [go_sem]
  go_enter Tryz.func111, Tryz.ntmps111
  go_upto_region 1 with fail
  rw [← hV, ← hcb]
  clear hV hcb
  obtain ⟨q0, q3, r0, r3, n0, n1, n2⟩ := HC.out
  clear HC
  go_wp2_with (fail)
  refine Calls.mono (HE1.out _ HB.out) ?_
  rintro e V1 ⟨rfl, hb⟩
  have q3 := c_after hb q3
  have r0 := c_after hb r0
  have r3 := c_after hb r3
  have n0 := c_after hb n0
  have n1 := c_after hb n1
  have n2 := c_after hb n2
  have HB : Hid _ := b_step HB.out hb
  clear hb
  go_wp2_with (fail)
  refine Calls.mono (HE2.out _ HB.out) ?_
  rintro e V2 ⟨rfl, hb⟩
  have q3 := c_after hb q3
  have r3 := c_after hb r3
  have n0 := c_after hb n0
  have n1 := c_after hb n1
  have n2 := c_after hb n2
  have HB : Hid _ := b_step HB.out hb
  clear hb
  go_wp2_with (fail)
  refine Calls.mono (HS.out _) ?_
  rintro e V3 ⟨rfl, hb⟩
  have q3 := c_after hb q3
  have r3 := c_after hb r3
  have HB : Hid _ := b_step HB.out hb
  clear hb
  obtain ⟨rm, hrm⟩ : ∃ m, lo - hi = m := ⟨_, rfl⟩
  have hrw : IntKind.i64.wrap (lo - hi) = rm := by rw [hrm, IntKind.wrap_i64]; omega
  rw [hrm] at HG
  by_cases hge : 0 ≤ rm
  · rw [if_pos hge] at HG
    have hu0 : 0 < u := by omega
    have ht := tdiv_rng (a := rm) (b := u) (C := 105553116266496) ⟨hge, by omega⟩ hu0
    have HT : Hid _ := ht
    obtain ⟨t, ht2⟩ : ∃ t, rm.tdiv u = t := ⟨_, rfl⟩
    rw [ht2] at HG ht
    have hune : ¬ u = 0 := by omega
    have htw : wrap64 t = t := w64 (by omega) (by omega)
    clear HT hrm
    go_wp2_with (fail)
    go_ret
    exact ⟨by rw [HG.out]; rfl, HB.out⟩
  · rw [if_neg hge] at HG
    obtain ⟨k, hk⟩ : ∃ k, d - 1 - rm = k := ⟨_, rfl⟩
    have hkr : 0 ≤ k ∧ k ≤ 211106232532992 := by omega
    have ht := tdiv_rng (a := k) (b := d) (C := 211106232532992) hkr (by omega)
    obtain ⟨t, ht2⟩ : ∃ t, k.tdiv d = t := ⟨_, rfl⟩
    rw [hk, ht2] at HG
    rw [ht2] at ht
    have hune : ¬ d = 0 := by omega
    have hkw : IntKind.i64.wrap (d - 1 - rm) = k := by rw [hk, IntKind.wrap_i64]; omega
    have htw : wrap64 t = t := w64 (by omega) (by omega)
    clear hrm hk
    go_wp2_with (fail)
    go_ret
    exact ⟨by rw [HG.out]; rfl, HB.out⟩
end Go.Proofs.YtbhdfjoagajipaaGreat
namespace Go.Proofs.YtbhdfjoagajipaaGreat
open Go.RowKit Go.Shelf
attribute [local go_sem] Oper.semAt_some
set_option linter.unusedVariables false

theorem scope_inN {n : Nat} {P : Program} {c : Code} {Q : Exit → Act → World → Prop} {a : Act} {w : World} (h : c.wpIn Fence.wide n P (Exit.noGoto Q) a w) : (Code.scope c).wpIn Fence.wide n P Q a w :=
  (wpIn_wide (n := n)).2 (wp_scope_straight ((wpIn_wide (n := n)).1 h))
set_option maxHeartbeats 1000000 in
theorem neach_in (o : Option Addr) (k c : Nat) (w : World) : Calls Tryz.prog 137 #[.slice o k c] w fun e w' => e = .returned (.func (.func 157) #[] #[.pointer (some ⟨w.heap.size, 0, none⟩)]) ∧ w' = w.alloc (.cells #[.slice o k c] 150) := by
  go_enter Tryz.func137, Tryz.ntmps137
  go_wp2
  go_ret
  exact ⟨rfl, rfl⟩
/-- Where a list lies is kept. -/
def InS (S : Nat → Prop) (v : Value) (L : List Pt) : Prop := ∀ q n c, v = .slice (some q) n c → L ≠ [] → S q.block

def offs (A B : List Pt) : Nat → Nat
  | 0 => 0
  | 1 => A.length
  | _ => (A ++ B).length
theorem yield_at {n l : Nat} {p q : Pt} {V : World} {K : Ending → World → Prop} (h : YieldAt Fence.wide n Tryz.prog l #[p.v] V K) (e : p = q) : YieldAt Fence.wide n Tryz.prog l #[q.v] V K := e ▸ h
set_option maxRecDepth 100000 in
set_option maxHeartbeats 4000000 in
theorem neach_tells (n : Nat) (Bl sb : Nat) (A B : List Pt) (va vb : Value) (S : Nat → Prop) (w : World) (hl : w.cell? ⟨Bl, 0, none⟩ = some (.slice (some ⟨sb, 0, none⟩) 2 2)) (h0 : w.cell? ⟨sb, 0, none⟩ = some va) (h1 : w.cell? ⟨sb, 1, none⟩ = some vb)
    (hA : Lies w va A) (hB : Lies w vb B) (sA : InS S va A) (sB : InS S vb B) (sl : S Bl) (ss : S sb) :
    TellsT n Tryz.prog 157 #[.pointer (some ⟨Bl, 0, none⟩)] (A ++ B) S w := by
  intro l J W hb hJ hY hJ0
  have cl := c_after hb hl
  have c0 := c_after hb h0
  have c1 := c_after hb h1
  have LA : Hid _ := hA.below hb
  have LB : Hid _ := hB.below hb
  obtain ⟨oa, ca, rfl, ha1, ha2, ha3⟩ := hA.form
  obtain ⟨ob, cb, rfl, hb1, hb2, hb3⟩ := hB.form
  clear hl h0 h1 hA hB ha3 hb3
  refine callsIn_of_wp Tryz.func157 rfl trivial ?_ rfl
  simp only [Tryz.ntmps157, List.size_toArray, List.length_cons, List.length_nil, Nat.reduceAdd, Nat.reduceSub, Array.replicate_succ, Array.replicate_zero, List.push_toArray, List.append_toArray, List.nil_append, List.cons_append]
  gi_wp2
  refine scope_inN ?_
  gi_wp2
  refine wpIn_label ?_
  gi_wp2
  gi_loopw [9] (fun s wr => ∃ i : Nat, i ≤ 2 ∧ s = .int .i64 (i : Int) ∧ Hid (J (offs A B i) wr) ∧ Hid (KeepC S W wr)) (fun s _ => 2 - (intOf s).toNat)
  case atStart => exact ⟨0, by omega, rfl, hJ0, KeepC.refl _ _⟩
  case round =>
    obtain ⟨i, hi, rfl, HJ, HK⟩ := hrel
    have d0 := HK.out.cell ⟨sb, 0, none⟩ _ ss c0
    have d1 := HK.out.cell ⟨sb, 1, none⟩ _ ss c1
    match i, hi with
    | 0, _ =>
      rw [show ((0 : Nat) : Int) = 0 from rfl]
      gi_wp2
      gi_loopw [15] (fun s wr2 => ∃ j : Nat, j ≤ A.length ∧ s = .int .i64 (j : Int) ∧ Hid (J (0 + j) wr2) ∧ Hid (KeepC S W wr2)) (fun s _ => A.length - (intOf s).toNat)
      case atStart => exact ⟨0, Nat.zero_le _, rfl, HJ, HK⟩
      case round =>
        clear HJ HK
        obtain ⟨j, hj, rfl, HJ, HK⟩ := hrel
        by_cases hjl : j < A.length
        · obtain ⟨o9, c9, e9, _, _, h9⟩ := (Lies.keepC LA.out HK.out sA).form
          simp only [Value.slice.injEq, true_and] at e9
          obtain ⟨e9, e8⟩ := e9
          subst e9 e8
          obtain ⟨g, f, rfl, x0, x1, x2⟩ := h9 j hjl
          have HE : Hid _ := show pt (A ++ B) (0 + j) = pt A j by rw [Nat.zero_add]; exact pt_left hjl
          have hkl : 0 + j < (A ++ B).length := by rw [List.length_append]; omega
          have HYk : Hid _ := fun V hV => yield_at (hY (0 + j) V hkl hV) HE.out
          have HJ1 : Hid (J (0 + j) (wr.alloc (.cells #[.int .i64 (pt A j).x, .int .i64 (pt A j).y, .int .i64 (pt A j).z] 23))) := own_step hJ HJ.out (n_after _ _)
          have HK1 : Hid (KeepC S W (wr.alloc (.cells #[.int .i64 (pt A j).x, .int .i64 (pt A j).y, .int .i64 (pt A j).z] 23))) := HK.out.trans (KeepC.below (n_after _ _))
          clear h9 hkl HE
          generalize pt A j = q at *
          obtain ⟨qx, qy, qz⟩ := q
          unfold Pt.v at HYk
          dsimp only at *
          obtain ⟨fn, tmps, assign, body, hy, hR⟩ := HYk.out _ HJ1.out
          clear HYk
          gi_wp2
          refine ⟨fun h => (by cases h), hR.mono ?_⟩
          rintro e W3 ⟨rfl, hJ3, hk3, _⟩
          gi_wp2
          go_roundw
          case rel => exact ⟨j + 1, by omega, by simp, (by rw [← Nat.add_assoc]; exact hJ3), HK1.out.trans hk3⟩
          case measure => simp [intOf]; omega
        · obtain rfl : j = A.length := by omega
          gi_wp2
          go_roundw
          case rel => exact ⟨1, by omega, by simp, (show J (offs A B 1) wr by simpa [offs] using HJ.out), HK⟩
          case measure => simp [intOf]
    | 1, _ =>
      rw [show ((1 : Nat) : Int) = 1 from rfl]
      have HJ : Hid (J (A.length + 0) wr) := HJ.out
      gi_wp2
      gi_loopw [15] (fun s wr2 => ∃ j : Nat, j ≤ B.length ∧ s = .int .i64 (j : Int) ∧ Hid (J (A.length + j) wr2) ∧ Hid (KeepC S W wr2)) (fun s _ => B.length - (intOf s).toNat)
      case atStart => exact ⟨0, Nat.zero_le _, rfl, HJ, HK⟩
      case round =>
        clear HJ HK
        obtain ⟨j, hj, rfl, HJ, HK⟩ := hrel
        by_cases hjl : j < B.length
        · obtain ⟨o9, c9, e9, _, _, h9⟩ := (Lies.keepC LB.out HK.out sB).form
          simp only [Value.slice.injEq, true_and] at e9
          obtain ⟨e9, e8⟩ := e9
          subst e9 e8
          obtain ⟨g, f, rfl, x0, x1, x2⟩ := h9 j hjl
          have HE : Hid _ := show pt (A ++ B) (A.length + j) = pt B j from pt_app
          have hkl : A.length + j < (A ++ B).length := by rw [List.length_append]; omega
          have HYk : Hid _ := fun V hV => yield_at (hY (A.length + j) V hkl hV) HE.out
          have HJ1 : Hid (J (A.length + j) (wr.alloc (.cells #[.int .i64 (pt B j).x, .int .i64 (pt B j).y, .int .i64 (pt B j).z] 23))) := own_step hJ HJ.out (n_after _ _)
          have HK1 : Hid (KeepC S W (wr.alloc (.cells #[.int .i64 (pt B j).x, .int .i64 (pt B j).y, .int .i64 (pt B j).z] 23))) := HK.out.trans (KeepC.below (n_after _ _))
          clear h9 hkl HE
          generalize pt B j = q at *
          obtain ⟨qx, qy, qz⟩ := q
          unfold Pt.v at HYk
          dsimp only at *
          obtain ⟨fn, tmps, assign, body, hy, hR⟩ := HYk.out _ HJ1.out
          clear HYk
          gi_wp2
          refine ⟨fun h => (by cases h), hR.mono ?_⟩
          rintro e W3 ⟨rfl, hJ3, hk3, _⟩
          gi_wp2
          go_roundw
          case rel => exact ⟨j + 1, by omega, by simp, (by rw [← Nat.add_assoc]; exact hJ3), HK1.out.trans hk3⟩
          case measure => simp [intOf]; omega
        · obtain rfl : j = B.length := by omega
          gi_wp2
          go_roundw
          case rel => exact ⟨2, by omega, by simp, (show J (offs A B 2) wr by simpa [offs, List.length_append] using HJ.out), HK⟩
          case measure => simp [intOf]
    | 2, _ =>
      rw [show ((2 : Nat) : Int) = 2 from rfl]
      gi_wp2
      rw [Exit.noGoto_normal]
      gi_wp2
      go_end0
      exact ⟨⟨_, rfl⟩, HJ.out⟩
end Go.Proofs.YtbhdfjoagajipaaGreat
namespace Go.Proofs.YtbhdfjoagajipaaGreat
open Go.RowKit Go.Shelf
attribute [local go_sem] Oper.semAt_some
set_option linter.unusedVariables false

set_option maxHeartbeats 1000000 in
theorem ncrosses_in (o : Option Addr) (k c : Nat) (o2 : Option Addr) (k2 c2 : Nat) (w : World) : Calls Tryz.prog 138 #[.slice o k c, .slice o2 k2 c2] w fun e w' => e = .returned (.func (.func 158) #[] #[.pointer (some ⟨w.heap.size, 0, none⟩), .pointer (some ⟨w.heap.size + 1, 0, none⟩)]) ∧ w' = (w.alloc (.cells #[.slice o k c] 24)).alloc (.cells #[.slice o2 k2 c2] 24) := by
  go_enter Tryz.func138, Tryz.ntmps138
  go_wp2
  go_ret
  exact ⟨rfl, rfl⟩

set_option maxRecDepth 100000 in
set_option maxHeartbeats 4000000 in
theorem ncrosses_tells (n : Nat) (Be Bf : Nat) (E F : List Pt) (ve vf : Value) (S : Nat → Prop) (w : World) (h0 : w.cell? ⟨Be, 0, none⟩ = some ve) (h1 : w.cell? ⟨Bf, 0, none⟩ = some vf)
    (hE : Lies w ve E) (hF : Lies w vf F) (sE : InS S ve E) (sF : InS S vf F) (s0 : S Be) (s1 : S Bf) (hSn : ∀ b, w.heap.size ≤ b → S b) (iE : ∀ p ∈ E, p.inB 1048576 = true) (iF : ∀ p ∈ F, p.inB 1048576 = true) :
    TellsT n Tryz.prog 158 #[.pointer (some ⟨Be, 0, none⟩), .pointer (some ⟨Bf, 0, none⟩)] (crossL E F) S w := by
  intro l J W hb hJ hY hJ0
  have c0 := c_after hb h0
  have c1 := c_after hb h1
  have LE : Hid _ := hE.below hb
  have LF : Hid _ := hF.below hb
  have HSn : Hid (∀ b, W.heap.size ≤ b → S b) := fun b h => hSn b (Nat.le_trans hb.size h)
  have HX : Hid _ := fun (i j : Nat) (hi : i < E.length) (hj : j < F.length) w' => ncross_any (pt E i) (pt F j) w' (inB_mono (iE _ (pt_mem hi)) (by decide)) (inB_mono (iF _ (pt_mem hj)) (by decide))
  have HT : Hid (∀ i j, i < E.length → j < F.length → pt (crossL E F) (((E.take i).flatMap fun e => F.map fun f => e.cross f).length + j) = (pt E i).cross (pt F j) ∧ ((E.take i).flatMap fun e => F.map fun f => e.cross f).length + j < (crossL E F).length) := fun i j hi hj => by
    unfold crossL
    refine ⟨?_, flat_lt _ E hi (by simpa using hj)⟩
    rw [flat_at _ E hi (by simpa using hj), pt_map hj]
  have HN : Hid (∀ i, i < E.length → ((E.take (i + 1)).flatMap fun e => F.map fun f => e.cross f).length = ((E.take i).flatMap fun e => F.map fun f => e.cross f).length + F.length) := fun i hi => by
    rw [flat_next _ E hi, List.length_map]
  have HZ : Hid (((E.take E.length).flatMap fun e => F.map fun f => e.cross f).length = (crossL E F).length) := by show _ = _; rw [List.take_length]; rfl
  have HJ0 : Hid (J ((E.take 0).flatMap fun e => F.map fun f => e.cross f).length W) := hJ0
  obtain ⟨oe, ce, rfl, ha1, ha2, ha3⟩ := hE.form
  obtain ⟨of, cf, rfl, hb1, hb2, hb3⟩ := hF.form
  clear h0 h1 hE hF ha3 hb3 iE iF hSn hJ0
  refine callsIn_of_wp Tryz.func158 rfl trivial ?_ rfl
  simp only [Tryz.ntmps158, List.size_toArray, List.length_cons, List.length_nil, Nat.reduceAdd, Nat.reduceSub, Array.replicate_succ, Array.replicate_zero, List.push_toArray, List.append_toArray, List.nil_append, List.cons_append]
  gi_wp2
  refine scope_inN ?_
  gi_wp2
  refine wpIn_label ?_
  gi_wp2
  gi_loopw [10] (fun s wr => ∃ i : Nat, i ≤ E.length ∧ s = .int .i64 (i : Int) ∧ Hid (J ((E.take i).flatMap fun e => F.map fun f => e.cross f).length wr) ∧ Hid (KeepC S W wr)) (fun s _ => E.length - (intOf s).toNat)
  case atStart => exact ⟨0, Nat.zero_le _, rfl, HJ0, KeepC.refl _ _⟩
  case round =>
    clear HJ0
    obtain ⟨i, hi, rfl, HJ, HK⟩ := hrel
    by_cases hit : i < E.length
    · obtain ⟨o9, c9, e9, _, _, h9⟩ := (Lies.keepC LE.out HK.out sE).form
      simp only [Value.slice.injEq, true_and] at e9
      obtain ⟨e9, e8⟩ := e9
      subst e9 e8
      obtain ⟨g, f, rfl, x0, x1, x2⟩ := h9 i hit
      have d1 := HK.out.cell ⟨Bf, 0, none⟩ _ s1 c1
      have HXi : Hid _ := fun (j : Nat) (hj : j < F.length) w' => HX.out i j hit hj w'
      have HTi : Hid _ := fun (j : Nat) (hj : j < F.length) => HT.out i j hit hj
      have HNi : Hid _ := HN.out i hit
      clear h9 HX HT HN
      generalize ((E.take i).flatMap fun e => F.map fun f => e.cross f).length = base at *
      generalize pt E i = p at *
      obtain ⟨px, py, pz⟩ := p
      obtain ⟨V, hV⟩ : ∃ V, V = wr.alloc (.cells #[.int .i64 px, .int .i64 py, .int .i64 pz] 23) := ⟨_, rfl⟩
      obtain ⟨eb, heb⟩ : ∃ b, b = wr.heap.size := ⟨_, rfl⟩
      have b9 : Below wr.heap.size wr V := by rw [hV]; exact n_after _ _
      have BE : Hid (Box3 V eb ⟨px, py, pz⟩) := by show Box3 _ _ _; rw [hV, heb]; exact Box3.new _ _ _ _ _
      have HJ : Hid (J (base + 0) V) := own_step hJ HJ.out b9
      have HK : Hid (KeepC S W V) := HK.out.trans (KeepC.below b9)
      have hSe : S eb := HSn.out eb (by rw [heb]; exact KeepC.size (S := S) (by assumption))
      have d1x := c_after (n_after wr (.cells #[.int .i64 px, .int .i64 py, .int .i64 pz] 23)) d1
      dsimp only at *
      gi_wp2
      rw [← hV] at d1x ⊢
      rw [← heb]
      clear x0 x1 x2 d1 hV b9 heb
      gi_loopw [16] (fun s wr2 => ∃ j : Nat, j ≤ F.length ∧ s = .int .i64 (j : Int) ∧ Hid (J (base + j) wr2) ∧ Hid (KeepC S V wr2)) (fun s _ => F.length - (intOf s).toNat)
      case atStart => exact ⟨0, Nat.zero_le _, rfl, HJ, KeepC.refl _ _⟩
      case round =>
        clear HJ
        obtain ⟨j, hj, rfl, HJ, HK2⟩ := hrel
        by_cases hjl : j < F.length
        · obtain ⟨o9, c9, e9, _, _, h9⟩ := (Lies.keepC (Lies.keepC LF.out HK.out sF) HK2.out sF).form
          simp only [Value.slice.injEq, true_and] at e9
          obtain ⟨e9, e8⟩ := e9
          subst e9 e8
          obtain ⟨g2, f2, rfl, x0, x1, x2⟩ := h9 j hjl
          have y0 := HK2.out.cell ⟨eb, 0, none⟩ _ hSe BE.out.c0
          have y1 := HK2.out.cell ⟨eb, 1, none⟩ _ hSe BE.out.c1
          have y2 := HK2.out.cell ⟨eb, 2, none⟩ _ hSe BE.out.c2
          dsimp only at y0 y1 y2
          have hebl : eb < wr.heap.size := World.block_lt_of_cell? _ _ y0
          have HXj : Hid _ := fun w' => HXi.out j hjl w'
          obtain ⟨hpt, hlt⟩ := HTi.out j hjl
          have HYk : Hid _ := fun Vx hV => yield_at (hY (base + j) Vx hlt hV) hpt
          clear h9 hlt hpt HXi HTi
          have HJx : Hid (∀ Vx, Below wr.heap.size wr Vx → J (base + j) Vx) := fun Vx h => own_step hJ HJ.out h
          generalize Pt.cross ⟨px, py, pz⟩ (pt F j) = cr at *
          generalize pt F j = q at *
          obtain ⟨qx, qy, qz⟩ := q
          obtain ⟨rx, ry, rz⟩ := cr
          unfold Pt.v at HYk HXj
          dsimp only at *
          gi_wp2
          refine ⟨trivial, fun h => (by cases h), (callsIn_wide.2 (HXj.out _)).mono ?_⟩
          rintro e V4 ⟨rfl, hb4⟩
          have b4 : Below wr.heap.size wr V4 := b_step (n_after _ _) hb4
          obtain ⟨fn, tmps, assign, body, hy, hR⟩ := HYk.out _ (HJx.out _ b4)
          have k4 : Hid (KeepC S wr V4) := KeepC.below b4
          clear HYk HXj hb4 b4 y0 y1 y2 x0 x1 x2
          gi_wp2
          refine ⟨fun h => (by cases h), hR.mono ?_⟩
          rintro e W3 ⟨rfl, hJ3, hk3, _⟩
          gi_wp2
          go_roundw
          case rel => exact ⟨j + 1, by omega, by simp, (by rw [← Nat.add_assoc]; exact hJ3), (HK2.out.trans k4.out).trans hk3⟩
          case measure => simp [intOf]; omega
        · obtain rfl : j = F.length := by omega
          rw [← HNi.out] at HJ
          gi_wp2
          go_roundw
          case rel => exact ⟨i + 1, by omega, by simp, HJ, HK.out.trans HK2.out⟩
          case measure => simp [intOf]; omega
    · obtain rfl : i = E.length := by omega
      rw [HZ.out] at HJ
      gi_wp2
      rw [Exit.noGoto_normal]
      gi_wp2
      go_end0
      exact ⟨⟨_, rfl⟩, HJ.out⟩
end Go.Proofs.YtbhdfjoagajipaaGreat
