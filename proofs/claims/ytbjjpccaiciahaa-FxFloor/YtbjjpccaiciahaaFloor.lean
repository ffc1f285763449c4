/- What is rounded is by less than one step too small, and never too great: true for all ints. -/
import Derived.Test.YtbjjpccaiciahaaBad
import Derived.Test.YtbjjpccaiciahaaRef8
import Derived.Test.YtbjjpccaiciahaaRows
import Derived.ProofKit
import Derived.OpenShut
namespace Go.Proofs.Ytbjjpccaiciahaa
namespace fxFloor
open Go.Proofs.Ytbjjpccaiciahaa.Ref Go.ChangeShapes Go.WideShapes Go.ChangeAt Go.RowKit Fx
set_option linter.unusedVariables false

theorem own : ownKnob Try.prog.godebug = none := by kernel_rfl

theorem fl_is {X c m : Int} (hm : m = fl X c) : (0 < c → m * c ≤ X ∧ X < (m + 1) * c) ∧ (c < 0 → X ≤ m * c ∧ (m + 1) * c < X) := by
  refine ⟨fun h => ?_, fun h => ?_⟩
  · unfold fl at hm
    rw [if_neg (by omega)] at hm
    rw [hm]; exact div_is X c h
  · unfold fl at hm
    rw [if_pos h] at hm
    have := div_is (-X) (-c) (by omega)
    rw [← hm] at this
    rw [Int.mul_neg, Int.mul_neg] at this
    omega
theorem ratio_some {a b c s : Int} (h : ratio a b c = some s) : c ≠ 0 ∧ s = fl (a * b) c ∧ -4611686018427387903 ≤ s ∧ s ≤ 4611686018427387903 := by
  unfold ratio at h
  split at h
  · simp at h
  · rename_i hc
    split at h
    · simp at h
    · unfold told at h
      split at h
      · simp at h
      · rename_i hg
        have hg' := (not_great _).1 (Bool.eq_false_iff.2 hg)
        simp only [Option.some.injEq] at h
        rw [h] at hg'
        exact ⟨hc, h.symm, hg'.1, hg'.2⟩
theorem norm2_some {a b s : Int} (h : norm [a, b] = some s) : 0 ≤ s ∧ s ≤ 4611686018427387903 ∧ s * s ≤ prods [a, b] [a, b] ∧ prods [a, b] [a, b] < (s + 1) * (s + 1) := by
  unfold norm at h
  split at h
  · simp at h
  · split at h
    · simp at h
    · unfold told at h
      split at h
      · simp at h
      · rename_i hg
        have hg' := (not_great _).1 (Bool.eq_false_iff.2 hg)
        simp only [Option.some.injEq] at h
        rw [h] at hg'
        obtain ⟨p, q⟩ := isq_is (prods [a, b] [a, b]).toNat
        have h0 := prods_self [a, b]
        generalize isq (prods [a, b] [a, b]).toNat = r at *
        have p' := Int.ofNat_le.2 p
        have q' := Int.ofNat_lt.2 q
        rw [Int.toNat_of_nonneg h0, Int.natCast_mul] at p' q'
        rw [Int.natCast_add] at q'
        subst h
        exact ⟨by omega, hg'.2, p', q'⟩
theorem step_good {f : Bool} {o : Option Int} {v : Int} (h : Step f o v false) : o = some v := by
  obtain ⟨a, b⟩ := h
  cases o <;> simp_all
theorem sq_fit {a b : Int} (ha : -4611686018427387904 ≤ a ∧ a ≤ 4611686018427387904) (hb : -4611686018427387904 ≤ b ∧ b ≤ 4611686018427387904) : (a * b).natAbs ≤ 21267647932558653966460912964485513216 := by
  rw [Int.natAbs_mul]
  exact Nat.le_trans (Nat.mul_le_mul (show a.natAbs ≤ 4611686018427387904 by omega) (show b.natAbs ≤ 4611686018427387904 by omega)) (by decide)

set_option maxHeartbeats 16000000 in
theorem walk (a0 : Int) (a1 : Int) (a2 : Int) (w0 : (Lit.int .i64 a0).wf = true) (w1 : (Lit.int .i64 a1).wf = true) (w2 : (Lit.int .i64 a2).wf = true) (w : World) :
    Calls Try.prog 6 #[.int .i64 a0, .int .i64 a1, .int .i64 a2] w fun e w' => e = .returned (.bool true) ∧ Below w.heap.size w w' := by
  clear w0 w1 w2
  have AW : Hid _ := awake_any w
  go_enter Try.func6, Try.ntmps6
  go_wp2_with (fail)
  refine Calls.mono AW.out ?_
  rintro e V ⟨rfl, hb0⟩
  have HB : Hid (Below w.heap.size w V) := hb0
  clear hb0 AW
  have BD := bad3 a0 a1 a2 V
  cases hg : (great a0 || (great a1 || great a2))
  · have hx : -4611686018427387903 ≤ a0 ∧ a0 ≤ 4611686018427387903 := (not_great a0).1 (by simp at hg; exact hg.1)
    have hy : -4611686018427387903 ≤ a1 ∧ a1 ≤ 4611686018427387903 := (not_great a1).1 (by simp at hg; exact hg.2.1)
    have hz : -4611686018427387903 ≤ a2 ∧ a2 ≤ 4611686018427387903 := (not_great a2).1 (by simp at hg; exact hg.2.2)
    have HGG : Hid ([a0, a1].any great = false) := by show _ = _; simp at hg; simp [hg]
    rw [hg] at BD
    clear hg
    go_wp2_with (fail)
    refine Calls.mono BD ?_
    rintro e V1 ⟨rfl, rfl⟩
    clear BD
    have HB : Hid _ := HB.out.alloc HB.out.size (.cells #[.int .i64 a0, .int .i64 a1, .int .i64 a2] 3)
    obtain ⟨V1, hV1⟩ : ∃ V1, V1 = V.alloc (.cells #[.int .i64 a0, .int .i64 a1, .int .i64 a2] 3) := ⟨_, rfl⟩
    rw [← hV1] at HB
    rw [← hV1]
    clear hV1
    have hs1 : w.heap.size ≤ V1.heap.size := HB.out.size
    go_wp2_with (fail)
    refine (ratio_law V1.heap.size 0 false a0 a1 a2 _ (by simp) (by simp)).mono ?_
    rintro e CW ⟨m, g1, rfl, S1, A1⟩
    have HB : Hid (Below w.heap.size w CW) := A1.out.on (HB.out.alloc hs1 _) hs1
    have c1 := A1.out.cell
    clear A1
    cases g1
    · obtain ⟨hc0, hm, hm1, hm2⟩ := ratio_some (step_good S1.out)
      have hfl := fl_is hm
      have HF1 : Hid _ := sq_fit (a := a0) (b := a1) (by omega) (by omega)
      have HF2 : Hid _ := sq_fit (a := m) (b := a2) (by omega) (by omega)
      have HF3 : Hid _ := sq_fit (a := m + 1) (b := a2) (by omega) (by omega)
      clear S1 hm
      have hcc : 0 < a2 ∨ a2 < 0 := by omega
      rcases hcc with hcc | hcc
      · have HI : Hid _ := hfl.1 hcc
        clear hfl
        go_wp2_with (fail)
        refine (of_any (a0) _ (by omega) (by omega)).mono ?_
        rintro e WA ⟨ua, da, rfl, SA, BA⟩
        go_wp2_with (fail)
        refine (of_any (a1) _ (by omega) (by omega)).mono ?_
        rintro e WB ⟨ub, db, rfl, SB, BB⟩
        go_wp2_with (fail)
        refine (times_any ua ub da db _ SA.out.1 SB.out.1 (by rw [SA.out.2, SB.out.2]; exact small_sq (by omega) (by omega))).mono ?_
        rintro e Wp ⟨up, dp, rfl, SC, BC⟩
        have Tp : Hid (Digs dp ∧ sv up dp = (a0) * (a1)) := ⟨SC.out.1, by rw [SC.out.2, SA.out.2, SB.out.2]⟩
        have HB : Hid (Below w.heap.size w Wp) := below_step (below_step (below_step HB.out BA.out) BB.out) BC.out
        clear SA SB SC BA BB BC
        have Lp : Hid (Lies (Wp.alloc (.cells #[.bool up, .int .i64 (dp 0), .int .i64 (dp 1), .int .i64 (dp 2), .int .i64 (dp 3), .int .i64 (dp 4), .int .i64 (dp 5), .int .i64 (dp 6), .int .i64 (dp 7)] 41)) Wp.heap.size up dp) := lies_new _ _ _ _
        have HB : Hid _ := HB.out.alloc HB.out.size (.cells #[.bool up, .int .i64 (dp 0), .int .i64 (dp 1), .int .i64 (dp 2), .int .i64 (dp 3), .int .i64 (dp 4), .int .i64 (dp 5), .int .i64 (dp 6), .int .i64 (dp 7)] 41)
        go_wp2_with (fail)
        refine (of_any (m) _ (by omega) (by omega)).mono ?_
        rintro e WA ⟨ua, da, rfl, SA, BA⟩
        go_wp2_with (fail)
        refine (of_any (a2) _ (by omega) (by omega)).mono ?_
        rintro e WB ⟨ub, db, rfl, SB, BB⟩
        go_wp2_with (fail)
        refine (times_any ua ub da db _ SA.out.1 SB.out.1 (by rw [SA.out.2, SB.out.2]; exact small_sq (by omega) (by omega))).mono ?_
        rintro e Wq ⟨uq, dq, rfl, SC, BC⟩
        have Tq : Hid (Digs dq ∧ sv uq dq = (m) * (a2)) := ⟨SC.out.1, by rw [SC.out.2, SA.out.2, SB.out.2]⟩
        have HB : Hid (Below w.heap.size w Wq) := below_step (below_step (below_step HB.out BA.out) BB.out) BC.out
        have Lp : Hid (Lies Wq Wp.heap.size up dp) := ((Lp.out.below BA.out Lp.out.lt).below BB.out (Lp.out.below BA.out Lp.out.lt).lt).below BC.out ((Lp.out.below BA.out Lp.out.lt).below BB.out (Lp.out.below BA.out Lp.out.lt).lt).lt
        clear SA SB SC BA BB BC
        have Lq : Hid (Lies (Wq.alloc (.cells #[.bool uq, .int .i64 (dq 0), .int .i64 (dq 1), .int .i64 (dq 2), .int .i64 (dq 3), .int .i64 (dq 4), .int .i64 (dq 5), .int .i64 (dq 6), .int .i64 (dq 7)] 41)) Wq.heap.size uq dq) := lies_new _ _ _ _
        have Lp : Hid (Lies (Wq.alloc (.cells #[.bool uq, .int .i64 (dq 0), .int .i64 (dq 1), .int .i64 (dq 2), .int .i64 (dq 3), .int .i64 (dq 4), .int .i64 (dq 5), .int .i64 (dq 6), .int .i64 (dq 7)] 41)) Wp.heap.size up dp) := Lp.out.alloc _
        have HB : Hid _ := HB.out.alloc HB.out.size (.cells #[.bool uq, .int .i64 (dq 0), .int .i64 (dq 1), .int .i64 (dq 2), .int .i64 (dq 3), .int .i64 (dq 4), .int .i64 (dq 5), .int .i64 (dq 6), .int .i64 (dq 7)] 41)
        go_wp2_with (fail)
        refine (of_any (m + 1) _ (by omega) (by omega)).mono ?_
        rintro e WA ⟨ua, da, rfl, SA, BA⟩
        go_wp2_with (fail)
        refine (of_any (a2) _ (by omega) (by omega)).mono ?_
        rintro e WB ⟨ub, db, rfl, SB, BB⟩
        go_wp2_with (fail)
        refine (times_any ua ub da db _ SA.out.1 SB.out.1 (by rw [SA.out.2, SB.out.2]; exact small_sq (by omega) (by omega))).mono ?_
        rintro e Wr ⟨ur, dr, rfl, SC, BC⟩
        have Tr : Hid (Digs dr ∧ sv ur dr = (m + 1) * (a2)) := ⟨SC.out.1, by rw [SC.out.2, SA.out.2, SB.out.2]⟩
        have HB : Hid (Below w.heap.size w Wr) := below_step (below_step (below_step HB.out BA.out) BB.out) BC.out
        have Lp : Hid (Lies Wr Wp.heap.size up dp) := ((Lp.out.below BA.out Lp.out.lt).below BB.out (Lp.out.below BA.out Lp.out.lt).lt).below BC.out ((Lp.out.below BA.out Lp.out.lt).below BB.out (Lp.out.below BA.out Lp.out.lt).lt).lt
        have Lq : Hid (Lies Wr Wq.heap.size uq dq) := ((Lq.out.below BA.out Lq.out.lt).below BB.out (Lq.out.below BA.out Lq.out.lt).lt).below BC.out ((Lq.out.below BA.out Lq.out.lt).below BB.out (Lq.out.below BA.out Lq.out.lt).lt).lt
        clear SA SB SC BA BB BC
        have Lr : Hid (Lies (Wr.alloc (.cells #[.bool ur, .int .i64 (dr 0), .int .i64 (dr 1), .int .i64 (dr 2), .int .i64 (dr 3), .int .i64 (dr 4), .int .i64 (dr 5), .int .i64 (dr 6), .int .i64 (dr 7)] 41)) Wr.heap.size ur dr) := lies_new _ _ _ _
        have Lp : Hid (Lies (Wr.alloc (.cells #[.bool ur, .int .i64 (dr 0), .int .i64 (dr 1), .int .i64 (dr 2), .int .i64 (dr 3), .int .i64 (dr 4), .int .i64 (dr 5), .int .i64 (dr 6), .int .i64 (dr 7)] 41)) Wp.heap.size up dp) := Lp.out.alloc _
        have Lq : Hid (Lies (Wr.alloc (.cells #[.bool ur, .int .i64 (dr 0), .int .i64 (dr 1), .int .i64 (dr 2), .int .i64 (dr 3), .int .i64 (dr 4), .int .i64 (dr 5), .int .i64 (dr 6), .int .i64 (dr 7)] 41)) Wq.heap.size uq dq) := Lq.out.alloc _
        have HB : Hid _ := HB.out.alloc HB.out.size (.cells #[.bool ur, .int .i64 (dr 0), .int .i64 (dr 1), .int .i64 (dr 2), .int .i64 (dr 3), .int .i64 (dr 4), .int .i64 (dr 5), .int .i64 (dr 6), .int .i64 (dr 7)] 41)
        obtain ⟨x0, x1, x2, x3, x4, x5, x6, x7, x8⟩ := Lp.out.cells
        obtain ⟨y0, y1, y2, y3, y4, y5, y6, y7, y8⟩ := Lq.out.cells
        go_wp2_with (fail)
        refine (less_any up uq dp dq _ Tp.out.1 Tq.out.1 (by rw [Tp.out.2, Tq.out.2]; have h1 := HF1.out; have h2 := HF2.out; have h3 := HF3.out; have h5 := HI.out; omega)).mono ?_
        rintro e WL ⟨cc, rfl, SL, BL⟩
        obtain rfl : cc = false := by
          have h := SL.out
          rw [Tp.out.2, Tq.out.2] at h
          have h4 := HI.out
          cases cc <;> simp at h ⊢ <;> omega
        have HB : Hid _ := below_step HB.out BL.out
        have Lp : Hid (Lies WL Wp.heap.size up dp) := Lp.out.below BL.out Lp.out.lt
        have Lr : Hid (Lies WL Wr.heap.size ur dr) := Lr.out.below BL.out Lr.out.lt
        clear SL BL
        clear x0 x1 x2 x3 x4 x5 x6 x7 x8 y0 y1 y2 y3 y4 y5 y6 y7 y8
        obtain ⟨x0, x1, x2, x3, x4, x5, x6, x7, x8⟩ := Lp.out.cells
        obtain ⟨y0, y1, y2, y3, y4, y5, y6, y7, y8⟩ := Lr.out.cells
        go_wp2_with (fail)
        refine (less_any up ur dp dr _ Tp.out.1 Tr.out.1 (by rw [Tp.out.2, Tr.out.2]; have h1 := HF1.out; have h2 := HF2.out; have h3 := HF3.out; have h5 := HI.out; omega)).mono ?_
        rintro e WL ⟨cc, rfl, SL, BL⟩
        obtain rfl : cc = true := by
          have h := SL.out
          rw [Tp.out.2, Tr.out.2] at h
          have h4 := HI.out
          cases cc <;> simp at h ⊢ <;> omega
        have HB : Hid _ := below_step HB.out BL.out
        clear SL BL
        clear x0 x1 x2 x3 x4 x5 x6 x7 x8 y0 y1 y2 y3 y4 y5 y6 y7 y8 HI HF1 HF2 HF3 Lp Lq Lr Tp Tq Tr
        obtain ⟨CW, hCW⟩ : ∃ C, C = WL := ⟨_, rfl⟩
        rw [← hCW] at HB
        rw [← hCW]
        clear hCW
        have hsC : w.heap.size ≤ CW.heap.size := HB.out.size
        go_wp2_with (fail)
        have NN := norm2_law CW.heap.size 0 false a0 a1 (CW.alloc (.cells #[.bool false] 25)) (by simp) (by simp)
        simp only [World.size_alloc] at NN
        refine NN.mono ?_
        rintro e WN ⟨n, g2, rfl, SN, AN⟩
        clear NN
        have HB : Hid (Below w.heap.size w WN) := AN.out.on (HB.out.alloc hsC _) hsC
        have cN := AN.out.cell
        clear AN
        cases g2
        · have hn := norm2_some (step_good SN.out)
          obtain ⟨hn0, hn1, hn2, hn3⟩ := hn
          have HI : Hid (n * n ≤ prods [a0, a1] [a0, a1] ∧ prods [a0, a1] [a0, a1] < (n + 1) * (n + 1)) := ⟨hn2, hn3⟩
          have HF1 : Hid _ := sq_fit (a := n) (b := n) (by omega) (by omega)
          have HF2 : Hid _ := sq_fit (a := n + 1) (b := n + 1) (by omega) (by omega)
          have HF3 : Hid (0 ≤ prods [a0, a1] [a0, a1]) := prods_self [a0, a1]
          clear SN hn2 hn3
          go_wp2_with (fail)
          refine (sumw_any [a0, a1] [a0, a1] WN.heap.size 0 (WN.heap.size + 1) 0 2 2 _ (by simp) rfl HGG.out HGG.out (fun k hk => by
            match k, hk with
            | 0, _ => simp [go_sem]
            | 1, _ => simp [go_sem]) (fun k hk => by
            match k, hk with
            | 0, _ => simp [go_sem]
            | 1, _ => simp [go_sem])).mono ?_
          rintro e WS ⟨us, ds, rfl, SS, BS⟩
          have TS : Hid (Digs ds ∧ sv us ds = prods [a0, a1] [a0, a1]) := SS.out
          have HB : Hid (Below w.heap.size w WS) := below_step ((HB.out.alloc HB.out.size _).alloc (by have := HB.out.size; simp; omega) _) BS.out
          clear SS BS
          have LS : Hid (Lies (WS.alloc (.cells #[.bool us, .int .i64 (ds 0), .int .i64 (ds 1), .int .i64 (ds 2), .int .i64 (ds 3), .int .i64 (ds 4), .int .i64 (ds 5), .int .i64 (ds 6), .int .i64 (ds 7)] 41)) WS.heap.size us ds) := lies_new _ _ _ _
          have HB : Hid _ := HB.out.alloc HB.out.size (.cells #[.bool us, .int .i64 (ds 0), .int .i64 (ds 1), .int .i64 (ds 2), .int .i64 (ds 3), .int .i64 (ds 4), .int .i64 (ds 5), .int .i64 (ds 6), .int .i64 (ds 7)] 41)
          go_wp2_with (fail)
          refine (of_any (n) _ (by omega) (by omega)).mono ?_
          rintro e WA ⟨ua, da, rfl, SA, BA⟩
          go_wp2_with (fail)
          refine (of_any (n) _ (by omega) (by omega)).mono ?_
          rintro e WB ⟨ub, db, rfl, SB, BB⟩
          go_wp2_with (fail)
          refine (times_any ua ub da db _ SA.out.1 SB.out.1 (by rw [SA.out.2, SB.out.2]; exact small_sq (by omega) (by omega))).mono ?_
          rintro e Wl ⟨ul, dl, rfl, SC, BC⟩
          have Tl : Hid (Digs dl ∧ sv ul dl = (n) * (n)) := ⟨SC.out.1, by rw [SC.out.2, SA.out.2, SB.out.2]⟩
          have HB : Hid (Below w.heap.size w Wl) := below_step (below_step (below_step HB.out BA.out) BB.out) BC.out
          have LS : Hid (Lies Wl WS.heap.size us ds) := ((LS.out.below BA.out LS.out.lt).below BB.out (LS.out.below BA.out LS.out.lt).lt).below BC.out ((LS.out.below BA.out LS.out.lt).below BB.out (LS.out.below BA.out LS.out.lt).lt).lt
          clear SA SB SC BA BB BC
          have Ll : Hid (Lies (Wl.alloc (.cells #[.bool ul, .int .i64 (dl 0), .int .i64 (dl 1), .int .i64 (dl 2), .int .i64 (dl 3), .int .i64 (dl 4), .int .i64 (dl 5), .int .i64 (dl 6), .int .i64 (dl 7)] 41)) Wl.heap.size ul dl) := lies_new _ _ _ _
          have LS : Hid (Lies (Wl.alloc (.cells #[.bool ul, .int .i64 (dl 0), .int .i64 (dl 1), .int .i64 (dl 2), .int .i64 (dl 3), .int .i64 (dl 4), .int .i64 (dl 5), .int .i64 (dl 6), .int .i64 (dl 7)] 41)) WS.heap.size us ds) := LS.out.alloc _
          have HB : Hid _ := HB.out.alloc HB.out.size (.cells #[.bool ul, .int .i64 (dl 0), .int .i64 (dl 1), .int .i64 (dl 2), .int .i64 (dl 3), .int .i64 (dl 4), .int .i64 (dl 5), .int .i64 (dl 6), .int .i64 (dl 7)] 41)
          go_wp2_with (fail)
          refine (of_any (n + 1) _ (by omega) (by omega)).mono ?_
          rintro e WA ⟨ua, da, rfl, SA, BA⟩
          go_wp2_with (fail)
          refine (of_any (n + 1) _ (by omega) (by omega)).mono ?_
          rintro e WB ⟨ub, db, rfl, SB, BB⟩
          go_wp2_with (fail)
          refine (times_any ua ub da db _ SA.out.1 SB.out.1 (by rw [SA.out.2, SB.out.2]; exact small_sq (by omega) (by omega))).mono ?_
          rintro e Wh ⟨uh, dh, rfl, SC, BC⟩
          have Th : Hid (Digs dh ∧ sv uh dh = (n + 1) * (n + 1)) := ⟨SC.out.1, by rw [SC.out.2, SA.out.2, SB.out.2]⟩
          have HB : Hid (Below w.heap.size w Wh) := below_step (below_step (below_step HB.out BA.out) BB.out) BC.out
          have LS : Hid (Lies Wh WS.heap.size us ds) := ((LS.out.below BA.out LS.out.lt).below BB.out (LS.out.below BA.out LS.out.lt).lt).below BC.out ((LS.out.below BA.out LS.out.lt).below BB.out (LS.out.below BA.out LS.out.lt).lt).lt
          have Ll : Hid (Lies Wh Wl.heap.size ul dl) := ((Ll.out.below BA.out Ll.out.lt).below BB.out (Ll.out.below BA.out Ll.out.lt).lt).below BC.out ((Ll.out.below BA.out Ll.out.lt).below BB.out (Ll.out.below BA.out Ll.out.lt).lt).lt
          clear SA SB SC BA BB BC
          have Lh : Hid (Lies (Wh.alloc (.cells #[.bool uh, .int .i64 (dh 0), .int .i64 (dh 1), .int .i64 (dh 2), .int .i64 (dh 3), .int .i64 (dh 4), .int .i64 (dh 5), .int .i64 (dh 6), .int .i64 (dh 7)] 41)) Wh.heap.size uh dh) := lies_new _ _ _ _
          have LS : Hid (Lies (Wh.alloc (.cells #[.bool uh, .int .i64 (dh 0), .int .i64 (dh 1), .int .i64 (dh 2), .int .i64 (dh 3), .int .i64 (dh 4), .int .i64 (dh 5), .int .i64 (dh 6), .int .i64 (dh 7)] 41)) WS.heap.size us ds) := LS.out.alloc _
          have Ll : Hid (Lies (Wh.alloc (.cells #[.bool uh, .int .i64 (dh 0), .int .i64 (dh 1), .int .i64 (dh 2), .int .i64 (dh 3), .int .i64 (dh 4), .int .i64 (dh 5), .int .i64 (dh 6), .int .i64 (dh 7)] 41)) Wl.heap.size ul dl) := Ll.out.alloc _
          have HB : Hid _ := HB.out.alloc HB.out.size (.cells #[.bool uh, .int .i64 (dh 0), .int .i64 (dh 1), .int .i64 (dh 2), .int .i64 (dh 3), .int .i64 (dh 4), .int .i64 (dh 5), .int .i64 (dh 6), .int .i64 (dh 7)] 41)
          obtain ⟨x0, x1, x2, x3, x4, x5, x6, x7, x8⟩ := LS.out.cells
          obtain ⟨y0, y1, y2, y3, y4, y5, y6, y7, y8⟩ := Ll.out.cells
          go_wp2_with (fail)
          refine (less_any us ul ds dl _ TS.out.1 Tl.out.1 (by rw [TS.out.2, Tl.out.2]; have h1 := HF1.out; have h2 := HF2.out; have h3 := HF3.out; have h5 := HI.out; omega)).mono ?_
          rintro e WL ⟨cc, rfl, SL, BL⟩
          obtain rfl : cc = false := by
            have h := SL.out
            rw [TS.out.2, Tl.out.2] at h
            have h4 := HI.out
            cases cc <;> simp at h ⊢ <;> omega
          have HB : Hid _ := below_step HB.out BL.out
          have LS : Hid (Lies WL WS.heap.size us ds) := LS.out.below BL.out LS.out.lt
          have Lh : Hid (Lies WL Wh.heap.size uh dh) := Lh.out.below BL.out Lh.out.lt
          clear SL BL
          clear x0 x1 x2 x3 x4 x5 x6 x7 x8 y0 y1 y2 y3 y4 y5 y6 y7 y8
          obtain ⟨x0, x1, x2, x3, x4, x5, x6, x7, x8⟩ := LS.out.cells
          obtain ⟨y0, y1, y2, y3, y4, y5, y6, y7, y8⟩ := Lh.out.cells
          go_wp2_with (fail)
          refine (less_any us uh ds dh _ TS.out.1 Th.out.1 (by rw [TS.out.2, Th.out.2]; have h1 := HF1.out; have h2 := HF2.out; have h3 := HF3.out; have h5 := HI.out; omega)).mono ?_
          rintro e WL ⟨cc, rfl, SL, BL⟩
          obtain rfl : cc = true := by
            have h := SL.out
            rw [TS.out.2, Th.out.2] at h
            have h4 := HI.out
            cases cc <;> simp at h ⊢ <;> omega
          have HB : Hid _ := below_step HB.out BL.out
          clear SL BL
          go_wp2_with (fail)
          go_ret
          exact ⟨rfl, HB.out⟩
        · clear SN
          go_wp2_with (fail)
          go_ret
          exact ⟨rfl, HB.out⟩
      · have HI : Hid _ := hfl.2 hcc
        clear hfl
        go_wp2_with (fail)
        refine (of_any (a0) _ (by omega) (by omega)).mono ?_
        rintro e WA ⟨ua, da, rfl, SA, BA⟩
        go_wp2_with (fail)
        refine (of_any (a1) _ (by omega) (by omega)).mono ?_
        rintro e WB ⟨ub, db, rfl, SB, BB⟩
        go_wp2_with (fail)
        refine (times_any ua ub da db _ SA.out.1 SB.out.1 (by rw [SA.out.2, SB.out.2]; exact small_sq (by omega) (by omega))).mono ?_
        rintro e Wp ⟨up, dp, rfl, SC, BC⟩
        have Tp : Hid (Digs dp ∧ sv up dp = (a0) * (a1)) := ⟨SC.out.1, by rw [SC.out.2, SA.out.2, SB.out.2]⟩
        have HB : Hid (Below w.heap.size w Wp) := below_step (below_step (below_step HB.out BA.out) BB.out) BC.out
        clear SA SB SC BA BB BC
        have Lp : Hid (Lies (Wp.alloc (.cells #[.bool up, .int .i64 (dp 0), .int .i64 (dp 1), .int .i64 (dp 2), .int .i64 (dp 3), .int .i64 (dp 4), .int .i64 (dp 5), .int .i64 (dp 6), .int .i64 (dp 7)] 41)) Wp.heap.size up dp) := lies_new _ _ _ _
        have HB : Hid _ := HB.out.alloc HB.out.size (.cells #[.bool up, .int .i64 (dp 0), .int .i64 (dp 1), .int .i64 (dp 2), .int .i64 (dp 3), .int .i64 (dp 4), .int .i64 (dp 5), .int .i64 (dp 6), .int .i64 (dp 7)] 41)
        go_wp2_with (fail)
        refine (of_any (m) _ (by omega) (by omega)).mono ?_
        rintro e WA ⟨ua, da, rfl, SA, BA⟩
        go_wp2_with (fail)
        refine (of_any (a2) _ (by omega) (by omega)).mono ?_
        rintro e WB ⟨ub, db, rfl, SB, BB⟩
        go_wp2_with (fail)
        refine (times_any ua ub da db _ SA.out.1 SB.out.1 (by rw [SA.out.2, SB.out.2]; exact small_sq (by omega) (by omega))).mono ?_
        rintro e Wq ⟨uq, dq, rfl, SC, BC⟩
        have Tq : Hid (Digs dq ∧ sv uq dq = (m) * (a2)) := ⟨SC.out.1, by rw [SC.out.2, SA.out.2, SB.out.2]⟩
        have HB : Hid (Below w.heap.size w Wq) := below_step (below_step (below_step HB.out BA.out) BB.out) BC.out
        have Lp : Hid (Lies Wq Wp.heap.size up dp) := ((Lp.out.below BA.out Lp.out.lt).below BB.out (Lp.out.below BA.out Lp.out.lt).lt).below BC.out ((Lp.out.below BA.out Lp.out.lt).below BB.out (Lp.out.below BA.out Lp.out.lt).lt).lt
        clear SA SB SC BA BB BC
        have Lq : Hid (Lies (Wq.alloc (.cells #[.bool uq, .int .i64 (dq 0), .int .i64 (dq 1), .int .i64 (dq 2), .int .i64 (dq 3), .int .i64 (dq 4), .int .i64 (dq 5), .int .i64 (dq 6), .int .i64 (dq 7)] 41)) Wq.heap.size uq dq) := lies_new _ _ _ _
        have Lp : Hid (Lies (Wq.alloc (.cells #[.bool uq, .int .i64 (dq 0), .int .i64 (dq 1), .int .i64 (dq 2), .int .i64 (dq 3), .int .i64 (dq 4), .int .i64 (dq 5), .int .i64 (dq 6), .int .i64 (dq 7)] 41)) Wp.heap.size up dp) := Lp.out.alloc _
        have HB : Hid _ := HB.out.alloc HB.out.size (.cells #[.bool uq, .int .i64 (dq 0), .int .i64 (dq 1), .int .i64 (dq 2), .int .i64 (dq 3), .int .i64 (dq 4), .int .i64 (dq 5), .int .i64 (dq 6), .int .i64 (dq 7)] 41)
        go_wp2_with (fail)
        refine (of_any (m + 1) _ (by omega) (by omega)).mono ?_
        rintro e WA ⟨ua, da, rfl, SA, BA⟩
        go_wp2_with (fail)
        refine (of_any (a2) _ (by omega) (by omega)).mono ?_
        rintro e WB ⟨ub, db, rfl, SB, BB⟩
        go_wp2_with (fail)
        refine (times_any ua ub da db _ SA.out.1 SB.out.1 (by rw [SA.out.2, SB.out.2]; exact small_sq (by omega) (by omega))).mono ?_
        rintro e Wr ⟨ur, dr, rfl, SC, BC⟩
        have Tr : Hid (Digs dr ∧ sv ur dr = (m + 1) * (a2)) := ⟨SC.out.1, by rw [SC.out.2, SA.out.2, SB.out.2]⟩
        have HB : Hid (Below w.heap.size w Wr) := below_step (below_step (below_step HB.out BA.out) BB.out) BC.out
        have Lp : Hid (Lies Wr Wp.heap.size up dp) := ((Lp.out.below BA.out Lp.out.lt).below BB.out (Lp.out.below BA.out Lp.out.lt).lt).below BC.out ((Lp.out.below BA.out Lp.out.lt).below BB.out (Lp.out.below BA.out Lp.out.lt).lt).lt
        have Lq : Hid (Lies Wr Wq.heap.size uq dq) := ((Lq.out.below BA.out Lq.out.lt).below BB.out (Lq.out.below BA.out Lq.out.lt).lt).below BC.out ((Lq.out.below BA.out Lq.out.lt).below BB.out (Lq.out.below BA.out Lq.out.lt).lt).lt
        clear SA SB SC BA BB BC
        have Lr : Hid (Lies (Wr.alloc (.cells #[.bool ur, .int .i64 (dr 0), .int .i64 (dr 1), .int .i64 (dr 2), .int .i64 (dr 3), .int .i64 (dr 4), .int .i64 (dr 5), .int .i64 (dr 6), .int .i64 (dr 7)] 41)) Wr.heap.size ur dr) := lies_new _ _ _ _
        have Lp : Hid (Lies (Wr.alloc (.cells #[.bool ur, .int .i64 (dr 0), .int .i64 (dr 1), .int .i64 (dr 2), .int .i64 (dr 3), .int .i64 (dr 4), .int .i64 (dr 5), .int .i64 (dr 6), .int .i64 (dr 7)] 41)) Wp.heap.size up dp) := Lp.out.alloc _
        have Lq : Hid (Lies (Wr.alloc (.cells #[.bool ur, .int .i64 (dr 0), .int .i64 (dr 1), .int .i64 (dr 2), .int .i64 (dr 3), .int .i64 (dr 4), .int .i64 (dr 5), .int .i64 (dr 6), .int .i64 (dr 7)] 41)) Wq.heap.size uq dq) := Lq.out.alloc _
        have HB : Hid _ := HB.out.alloc HB.out.size (.cells #[.bool ur, .int .i64 (dr 0), .int .i64 (dr 1), .int .i64 (dr 2), .int .i64 (dr 3), .int .i64 (dr 4), .int .i64 (dr 5), .int .i64 (dr 6), .int .i64 (dr 7)] 41)
        obtain ⟨x0, x1, x2, x3, x4, x5, x6, x7, x8⟩ := Lp.out.cells
        obtain ⟨y0, y1, y2, y3, y4, y5, y6, y7, y8⟩ := Lq.out.cells
        go_wp2_with (fail)
        refine (less_any uq up dq dp _ Tq.out.1 Tp.out.1 (by rw [Tq.out.2, Tp.out.2]; have h1 := HF1.out; have h2 := HF2.out; have h3 := HF3.out; have h5 := HI.out; omega)).mono ?_
        rintro e WL ⟨cc, rfl, SL, BL⟩
        obtain rfl : cc = false := by
          have h := SL.out
          rw [Tq.out.2, Tp.out.2] at h
          have h4 := HI.out
          cases cc <;> simp at h ⊢ <;> omega
        have HB : Hid _ := below_step HB.out BL.out
        have Lp : Hid (Lies WL Wp.heap.size up dp) := Lp.out.below BL.out Lp.out.lt
        have Lr : Hid (Lies WL Wr.heap.size ur dr) := Lr.out.below BL.out Lr.out.lt
        clear SL BL
        clear x0 x1 x2 x3 x4 x5 x6 x7 x8 y0 y1 y2 y3 y4 y5 y6 y7 y8
        obtain ⟨x0, x1, x2, x3, x4, x5, x6, x7, x8⟩ := Lp.out.cells
        obtain ⟨y0, y1, y2, y3, y4, y5, y6, y7, y8⟩ := Lr.out.cells
        go_wp2_with (fail)
        refine (less_any ur up dr dp _ Tr.out.1 Tp.out.1 (by rw [Tr.out.2, Tp.out.2]; have h1 := HF1.out; have h2 := HF2.out; have h3 := HF3.out; have h5 := HI.out; omega)).mono ?_
        rintro e WL ⟨cc, rfl, SL, BL⟩
        obtain rfl : cc = true := by
          have h := SL.out
          rw [Tr.out.2, Tp.out.2] at h
          have h4 := HI.out
          cases cc <;> simp at h ⊢ <;> omega
        have HB : Hid _ := below_step HB.out BL.out
        clear SL BL
        clear x0 x1 x2 x3 x4 x5 x6 x7 x8 y0 y1 y2 y3 y4 y5 y6 y7 y8 HI HF1 HF2 HF3 Lp Lq Lr Tp Tq Tr
        obtain ⟨CW, hCW⟩ : ∃ C, C = WL := ⟨_, rfl⟩
        rw [← hCW] at HB
        rw [← hCW]
        clear hCW
        have hsC : w.heap.size ≤ CW.heap.size := HB.out.size
        go_wp2_with (fail)
        have NN := norm2_law CW.heap.size 0 false a0 a1 (CW.alloc (.cells #[.bool false] 25)) (by simp) (by simp)
        simp only [World.size_alloc] at NN
        refine NN.mono ?_
        rintro e WN ⟨n, g2, rfl, SN, AN⟩
        clear NN
        have HB : Hid (Below w.heap.size w WN) := AN.out.on (HB.out.alloc hsC _) hsC
        have cN := AN.out.cell
        clear AN
        cases g2
        · have hn := norm2_some (step_good SN.out)
          obtain ⟨hn0, hn1, hn2, hn3⟩ := hn
          have HI : Hid (n * n ≤ prods [a0, a1] [a0, a1] ∧ prods [a0, a1] [a0, a1] < (n + 1) * (n + 1)) := ⟨hn2, hn3⟩
          have HF1 : Hid _ := sq_fit (a := n) (b := n) (by omega) (by omega)
          have HF2 : Hid _ := sq_fit (a := n + 1) (b := n + 1) (by omega) (by omega)
          have HF3 : Hid (0 ≤ prods [a0, a1] [a0, a1]) := prods_self [a0, a1]
          clear SN hn2 hn3
          go_wp2_with (fail)
          refine (sumw_any [a0, a1] [a0, a1] WN.heap.size 0 (WN.heap.size + 1) 0 2 2 _ (by simp) rfl HGG.out HGG.out (fun k hk => by
            match k, hk with
            | 0, _ => simp [go_sem]
            | 1, _ => simp [go_sem]) (fun k hk => by
            match k, hk with
            | 0, _ => simp [go_sem]
            | 1, _ => simp [go_sem])).mono ?_
          rintro e WS ⟨us, ds, rfl, SS, BS⟩
          have TS : Hid (Digs ds ∧ sv us ds = prods [a0, a1] [a0, a1]) := SS.out
          have HB : Hid (Below w.heap.size w WS) := below_step ((HB.out.alloc HB.out.size _).alloc (by have := HB.out.size; simp; omega) _) BS.out
          clear SS BS
          have LS : Hid (Lies (WS.alloc (.cells #[.bool us, .int .i64 (ds 0), .int .i64 (ds 1), .int .i64 (ds 2), .int .i64 (ds 3), .int .i64 (ds 4), .int .i64 (ds 5), .int .i64 (ds 6), .int .i64 (ds 7)] 41)) WS.heap.size us ds) := lies_new _ _ _ _
          have HB : Hid _ := HB.out.alloc HB.out.size (.cells #[.bool us, .int .i64 (ds 0), .int .i64 (ds 1), .int .i64 (ds 2), .int .i64 (ds 3), .int .i64 (ds 4), .int .i64 (ds 5), .int .i64 (ds 6), .int .i64 (ds 7)] 41)
          go_wp2_with (fail)
          refine (of_any (n) _ (by omega) (by omega)).mono ?_
          rintro e WA ⟨ua, da, rfl, SA, BA⟩
          go_wp2_with (fail)
          refine (of_any (n) _ (by omega) (by omega)).mono ?_
          rintro e WB ⟨ub, db, rfl, SB, BB⟩
          go_wp2_with (fail)
          refine (times_any ua ub da db _ SA.out.1 SB.out.1 (by rw [SA.out.2, SB.out.2]; exact small_sq (by omega) (by omega))).mono ?_
          rintro e Wl ⟨ul, dl, rfl, SC, BC⟩
          have Tl : Hid (Digs dl ∧ sv ul dl = (n) * (n)) := ⟨SC.out.1, by rw [SC.out.2, SA.out.2, SB.out.2]⟩
          have HB : Hid (Below w.heap.size w Wl) := below_step (below_step (below_step HB.out BA.out) BB.out) BC.out
          have LS : Hid (Lies Wl WS.heap.size us ds) := ((LS.out.below BA.out LS.out.lt).below BB.out (LS.out.below BA.out LS.out.lt).lt).below BC.out ((LS.out.below BA.out LS.out.lt).below BB.out (LS.out.below BA.out LS.out.lt).lt).lt
          clear SA SB SC BA BB BC
          have Ll : Hid (Lies (Wl.alloc (.cells #[.bool ul, .int .i64 (dl 0), .int .i64 (dl 1), .int .i64 (dl 2), .int .i64 (dl 3), .int .i64 (dl 4), .int .i64 (dl 5), .int .i64 (dl 6), .int .i64 (dl 7)] 41)) Wl.heap.size ul dl) := lies_new _ _ _ _
          have LS : Hid (Lies (Wl.alloc (.cells #[.bool ul, .int .i64 (dl 0), .int .i64 (dl 1), .int .i64 (dl 2), .int .i64 (dl 3), .int .i64 (dl 4), .int .i64 (dl 5), .int .i64 (dl 6), .int .i64 (dl 7)] 41)) WS.heap.size us ds) := LS.out.alloc _
          have HB : Hid _ := HB.out.alloc HB.out.size (.cells #[.bool ul, .int .i64 (dl 0), .int .i64 (dl 1), .int .i64 (dl 2), .int .i64 (dl 3), .int .i64 (dl 4), .int .i64 (dl 5), .int .i64 (dl 6), .int .i64 (dl 7)] 41)
          go_wp2_with (fail)
          refine (of_any (n + 1) _ (by omega) (by omega)).mono ?_
          rintro e WA ⟨ua, da, rfl, SA, BA⟩
          go_wp2_with (fail)
          refine (of_any (n + 1) _ (by omega) (by omega)).mono ?_
          rintro e WB ⟨ub, db, rfl, SB, BB⟩
          go_wp2_with (fail)
          refine (times_any ua ub da db _ SA.out.1 SB.out.1 (by rw [SA.out.2, SB.out.2]; exact small_sq (by omega) (by omega))).mono ?_
          rintro e Wh ⟨uh, dh, rfl, SC, BC⟩
          have Th : Hid (Digs dh ∧ sv uh dh = (n + 1) * (n + 1)) := ⟨SC.out.1, by rw [SC.out.2, SA.out.2, SB.out.2]⟩
          have HB : Hid (Below w.heap.size w Wh) := below_step (below_step (below_step HB.out BA.out) BB.out) BC.out
          have LS : Hid (Lies Wh WS.heap.size us ds) := ((LS.out.below BA.out LS.out.lt).below BB.out (LS.out.below BA.out LS.out.lt).lt).below BC.out ((LS.out.below BA.out LS.out.lt).below BB.out (LS.out.below BA.out LS.out.lt).lt).lt
          have Ll : Hid (Lies Wh Wl.heap.size ul dl) := ((Ll.out.below BA.out Ll.out.lt).below BB.out (Ll.out.below BA.out Ll.out.lt).lt).below BC.out ((Ll.out.below BA.out Ll.out.lt).below BB.out (Ll.out.below BA.out Ll.out.lt).lt).lt
          clear SA SB SC BA BB BC
          have Lh : Hid (Lies (Wh.alloc (.cells #[.bool uh, .int .i64 (dh 0), .int .i64 (dh 1), .int .i64 (dh 2), .int .i64 (dh 3), .int .i64 (dh 4), .int .i64 (dh 5), .int .i64 (dh 6), .int .i64 (dh 7)] 41)) Wh.heap.size uh dh) := lies_new _ _ _ _
          have LS : Hid (Lies (Wh.alloc (.cells #[.bool uh, .int .i64 (dh 0), .int .i64 (dh 1), .int .i64 (dh 2), .int .i64 (dh 3), .int .i64 (dh 4), .int .i64 (dh 5), .int .i64 (dh 6), .int .i64 (dh 7)] 41)) WS.heap.size us ds) := LS.out.alloc _
          have Ll : Hid (Lies (Wh.alloc (.cells #[.bool uh, .int .i64 (dh 0), .int .i64 (dh 1), .int .i64 (dh 2), .int .i64 (dh 3), .int .i64 (dh 4), .int .i64 (dh 5), .int .i64 (dh 6), .int .i64 (dh 7)] 41)) Wl.heap.size ul dl) := Ll.out.alloc _
          have HB : Hid _ := HB.out.alloc HB.out.size (.cells #[.bool uh, .int .i64 (dh 0), .int .i64 (dh 1), .int .i64 (dh 2), .int .i64 (dh 3), .int .i64 (dh 4), .int .i64 (dh 5), .int .i64 (dh 6), .int .i64 (dh 7)] 41)
          obtain ⟨x0, x1, x2, x3, x4, x5, x6, x7, x8⟩ := LS.out.cells
          obtain ⟨y0, y1, y2, y3, y4, y5, y6, y7, y8⟩ := Ll.out.cells
          go_wp2_with (fail)
          refine (less_any us ul ds dl _ TS.out.1 Tl.out.1 (by rw [TS.out.2, Tl.out.2]; have h1 := HF1.out; have h2 := HF2.out; have h3 := HF3.out; have h5 := HI.out; omega)).mono ?_
          rintro e WL ⟨cc, rfl, SL, BL⟩
          obtain rfl : cc = false := by
            have h := SL.out
            rw [TS.out.2, Tl.out.2] at h
            have h4 := HI.out
            cases cc <;> simp at h ⊢ <;> omega
          have HB : Hid _ := below_step HB.out BL.out
          have LS : Hid (Lies WL WS.heap.size us ds) := LS.out.below BL.out LS.out.lt
          have Lh : Hid (Lies WL Wh.heap.size uh dh) := Lh.out.below BL.out Lh.out.lt
          clear SL BL
          clear x0 x1 x2 x3 x4 x5 x6 x7 x8 y0 y1 y2 y3 y4 y5 y6 y7 y8
          obtain ⟨x0, x1, x2, x3, x4, x5, x6, x7, x8⟩ := LS.out.cells
          obtain ⟨y0, y1, y2, y3, y4, y5, y6, y7, y8⟩ := Lh.out.cells
          go_wp2_with (fail)
          refine (less_any us uh ds dh _ TS.out.1 Th.out.1 (by rw [TS.out.2, Th.out.2]; have h1 := HF1.out; have h2 := HF2.out; have h3 := HF3.out; have h5 := HI.out; omega)).mono ?_
          rintro e WL ⟨cc, rfl, SL, BL⟩
          obtain rfl : cc = true := by
            have h := SL.out
            rw [TS.out.2, Th.out.2] at h
            have h4 := HI.out
            cases cc <;> simp at h ⊢ <;> omega
          have HB : Hid _ := below_step HB.out BL.out
          clear SL BL
          go_wp2_with (fail)
          go_ret
          exact ⟨rfl, HB.out⟩
        · clear SN
          go_wp2_with (fail)
          go_ret
          exact ⟨rfl, HB.out⟩
    · clear S1
      have hsC : w.heap.size ≤ CW.heap.size := HB.out.size
      go_wp2_with (fail)
      have NN := norm2_law CW.heap.size 0 false a0 a1 (CW.alloc (.cells #[.bool false] 25)) (by simp) (by simp)
      simp only [World.size_alloc] at NN
      refine NN.mono ?_
      rintro e WN ⟨n, g2, rfl, SN, AN⟩
      clear NN
      have HB : Hid (Below w.heap.size w WN) := AN.out.on (HB.out.alloc hsC _) hsC
      have cN := AN.out.cell
      clear AN
      cases g2
      · have hn := norm2_some (step_good SN.out)
        obtain ⟨hn0, hn1, hn2, hn3⟩ := hn
        have HI : Hid (n * n ≤ prods [a0, a1] [a0, a1] ∧ prods [a0, a1] [a0, a1] < (n + 1) * (n + 1)) := ⟨hn2, hn3⟩
        have HF1 : Hid _ := sq_fit (a := n) (b := n) (by omega) (by omega)
        have HF2 : Hid _ := sq_fit (a := n + 1) (b := n + 1) (by omega) (by omega)
        have HF3 : Hid (0 ≤ prods [a0, a1] [a0, a1]) := prods_self [a0, a1]
        clear SN hn2 hn3
        go_wp2_with (fail)
        refine (sumw_any [a0, a1] [a0, a1] WN.heap.size 0 (WN.heap.size + 1) 0 2 2 _ (by simp) rfl HGG.out HGG.out (fun k hk => by
          match k, hk with
          | 0, _ => simp [go_sem]
          | 1, _ => simp [go_sem]) (fun k hk => by
          match k, hk with
          | 0, _ => simp [go_sem]
          | 1, _ => simp [go_sem])).mono ?_
        rintro e WS ⟨us, ds, rfl, SS, BS⟩
        have TS : Hid (Digs ds ∧ sv us ds = prods [a0, a1] [a0, a1]) := SS.out
        have HB : Hid (Below w.heap.size w WS) := below_step ((HB.out.alloc HB.out.size _).alloc (by have := HB.out.size; simp; omega) _) BS.out
        clear SS BS
        have LS : Hid (Lies (WS.alloc (.cells #[.bool us, .int .i64 (ds 0), .int .i64 (ds 1), .int .i64 (ds 2), .int .i64 (ds 3), .int .i64 (ds 4), .int .i64 (ds 5), .int .i64 (ds 6), .int .i64 (ds 7)] 41)) WS.heap.size us ds) := lies_new _ _ _ _
        have HB : Hid _ := HB.out.alloc HB.out.size (.cells #[.bool us, .int .i64 (ds 0), .int .i64 (ds 1), .int .i64 (ds 2), .int .i64 (ds 3), .int .i64 (ds 4), .int .i64 (ds 5), .int .i64 (ds 6), .int .i64 (ds 7)] 41)
        go_wp2_with (fail)
        refine (of_any (n) _ (by omega) (by omega)).mono ?_
        rintro e WA ⟨ua, da, rfl, SA, BA⟩
        go_wp2_with (fail)
        refine (of_any (n) _ (by omega) (by omega)).mono ?_
        rintro e WB ⟨ub, db, rfl, SB, BB⟩
        go_wp2_with (fail)
        refine (times_any ua ub da db _ SA.out.1 SB.out.1 (by rw [SA.out.2, SB.out.2]; exact small_sq (by omega) (by omega))).mono ?_
        rintro e Wl ⟨ul, dl, rfl, SC, BC⟩
        have Tl : Hid (Digs dl ∧ sv ul dl = (n) * (n)) := ⟨SC.out.1, by rw [SC.out.2, SA.out.2, SB.out.2]⟩
        have HB : Hid (Below w.heap.size w Wl) := below_step (below_step (below_step HB.out BA.out) BB.out) BC.out
        have LS : Hid (Lies Wl WS.heap.size us ds) := ((LS.out.below BA.out LS.out.lt).below BB.out (LS.out.below BA.out LS.out.lt).lt).below BC.out ((LS.out.below BA.out LS.out.lt).below BB.out (LS.out.below BA.out LS.out.lt).lt).lt
        clear SA SB SC BA BB BC
        have Ll : Hid (Lies (Wl.alloc (.cells #[.bool ul, .int .i64 (dl 0), .int .i64 (dl 1), .int .i64 (dl 2), .int .i64 (dl 3), .int .i64 (dl 4), .int .i64 (dl 5), .int .i64 (dl 6), .int .i64 (dl 7)] 41)) Wl.heap.size ul dl) := lies_new _ _ _ _
        have LS : Hid (Lies (Wl.alloc (.cells #[.bool ul, .int .i64 (dl 0), .int .i64 (dl 1), .int .i64 (dl 2), .int .i64 (dl 3), .int .i64 (dl 4), .int .i64 (dl 5), .int .i64 (dl 6), .int .i64 (dl 7)] 41)) WS.heap.size us ds) := LS.out.alloc _
        have HB : Hid _ := HB.out.alloc HB.out.size (.cells #[.bool ul, .int .i64 (dl 0), .int .i64 (dl 1), .int .i64 (dl 2), .int .i64 (dl 3), .int .i64 (dl 4), .int .i64 (dl 5), .int .i64 (dl 6), .int .i64 (dl 7)] 41)
        go_wp2_with (fail)
        refine (of_any (n + 1) _ (by omega) (by omega)).mono ?_
        rintro e WA ⟨ua, da, rfl, SA, BA⟩
        go_wp2_with (fail)
        refine (of_any (n + 1) _ (by omega) (by omega)).mono ?_
        rintro e WB ⟨ub, db, rfl, SB, BB⟩
        go_wp2_with (fail)
        refine (times_any ua ub da db _ SA.out.1 SB.out.1 (by rw [SA.out.2, SB.out.2]; exact small_sq (by omega) (by omega))).mono ?_
        rintro e Wh ⟨uh, dh, rfl, SC, BC⟩
        have Th : Hid (Digs dh ∧ sv uh dh = (n + 1) * (n + 1)) := ⟨SC.out.1, by rw [SC.out.2, SA.out.2, SB.out.2]⟩
        have HB : Hid (Below w.heap.size w Wh) := below_step (below_step (below_step HB.out BA.out) BB.out) BC.out
        have LS : Hid (Lies Wh WS.heap.size us ds) := ((LS.out.below BA.out LS.out.lt).below BB.out (LS.out.below BA.out LS.out.lt).lt).below BC.out ((LS.out.below BA.out LS.out.lt).below BB.out (LS.out.below BA.out LS.out.lt).lt).lt
        have Ll : Hid (Lies Wh Wl.heap.size ul dl) := ((Ll.out.below BA.out Ll.out.lt).below BB.out (Ll.out.below BA.out Ll.out.lt).lt).below BC.out ((Ll.out.below BA.out Ll.out.lt).below BB.out (Ll.out.below BA.out Ll.out.lt).lt).lt
        clear SA SB SC BA BB BC
        have Lh : Hid (Lies (Wh.alloc (.cells #[.bool uh, .int .i64 (dh 0), .int .i64 (dh 1), .int .i64 (dh 2), .int .i64 (dh 3), .int .i64 (dh 4), .int .i64 (dh 5), .int .i64 (dh 6), .int .i64 (dh 7)] 41)) Wh.heap.size uh dh) := lies_new _ _ _ _
        have LS : Hid (Lies (Wh.alloc (.cells #[.bool uh, .int .i64 (dh 0), .int .i64 (dh 1), .int .i64 (dh 2), .int .i64 (dh 3), .int .i64 (dh 4), .int .i64 (dh 5), .int .i64 (dh 6), .int .i64 (dh 7)] 41)) WS.heap.size us ds) := LS.out.alloc _
        have Ll : Hid (Lies (Wh.alloc (.cells #[.bool uh, .int .i64 (dh 0), .int .i64 (dh 1), .int .i64 (dh 2), .int .i64 (dh 3), .int .i64 (dh 4), .int .i64 (dh 5), .int .i64 (dh 6), .int .i64 (dh 7)] 41)) Wl.heap.size ul dl) := Ll.out.alloc _
        have HB : Hid _ := HB.out.alloc HB.out.size (.cells #[.bool uh, .int .i64 (dh 0), .int .i64 (dh 1), .int .i64 (dh 2), .int .i64 (dh 3), .int .i64 (dh 4), .int .i64 (dh 5), .int .i64 (dh 6), .int .i64 (dh 7)] 41)
        obtain ⟨x0, x1, x2, x3, x4, x5, x6, x7, x8⟩ := LS.out.cells
        obtain ⟨y0, y1, y2, y3, y4, y5, y6, y7, y8⟩ := Ll.out.cells
        go_wp2_with (fail)
        refine (less_any us ul ds dl _ TS.out.1 Tl.out.1 (by rw [TS.out.2, Tl.out.2]; have h1 := HF1.out; have h2 := HF2.out; have h3 := HF3.out; have h5 := HI.out; omega)).mono ?_
        rintro e WL ⟨cc, rfl, SL, BL⟩
        obtain rfl : cc = false := by
          have h := SL.out
          rw [TS.out.2, Tl.out.2] at h
          have h4 := HI.out
          cases cc <;> simp at h ⊢ <;> omega
        have HB : Hid _ := below_step HB.out BL.out
        have LS : Hid (Lies WL WS.heap.size us ds) := LS.out.below BL.out LS.out.lt
        have Lh : Hid (Lies WL Wh.heap.size uh dh) := Lh.out.below BL.out Lh.out.lt
        clear SL BL
        clear x0 x1 x2 x3 x4 x5 x6 x7 x8 y0 y1 y2 y3 y4 y5 y6 y7 y8
        obtain ⟨x0, x1, x2, x3, x4, x5, x6, x7, x8⟩ := LS.out.cells
        obtain ⟨y0, y1, y2, y3, y4, y5, y6, y7, y8⟩ := Lh.out.cells
        go_wp2_with (fail)
        refine (less_any us uh ds dh _ TS.out.1 Th.out.1 (by rw [TS.out.2, Th.out.2]; have h1 := HF1.out; have h2 := HF2.out; have h3 := HF3.out; have h5 := HI.out; omega)).mono ?_
        rintro e WL ⟨cc, rfl, SL, BL⟩
        obtain rfl : cc = true := by
          have h := SL.out
          rw [TS.out.2, Th.out.2] at h
          have h4 := HI.out
          cases cc <;> simp at h ⊢ <;> omega
        have HB : Hid _ := below_step HB.out BL.out
        clear SL BL
        go_wp2_with (fail)
        go_ret
        exact ⟨rfl, HB.out⟩
      · clear SN
        go_wp2_with (fail)
        go_ret
        exact ⟨rfl, HB.out⟩
  · rw [hg] at BD
    clear hg
    go_wp2_with (fail)
    refine Calls.mono BD ?_
    rintro e V1 ⟨rfl, rfl⟩
    clear BD
    go_wp2_with (fail)
    go_ret
    exact ⟨rfl, HB.out.alloc HB.out.size _⟩

/-! ### The row's step, after the guide's template -/
set_option maxRecDepth 100000 in
theorem lifted (os : Os) (started : os.Started) (H : Type) (enc : TypeId × Value → H) :
    ReturnsInHanded {} Try.checked os 6 .any (Rows.fxFloorSpec.pre6 enc Try.prog Try.f6 Rows.fxFloorRow.domain false) (Rows.fxFloorSpec.post enc Try.prog Try.f6 false true false false) := by
  refine returnsInHanded_of_change (C := Try.checked) own started (by kernel_rfl) Try.func6
    (ChangeSpec.witness6 (enc := enc) (C := Try.checked) false ⟨#[], #[.int .i64 0, .int .i64 0, .int .i64 0], []⟩ 8 (by kernel_rfl) (by kernel_rfl) (by kernel_rfl) (by kernel_rfl)) ?_
  intro W base args ds gs before hval0 hW hcnd _
  have hval : ∀ (j : Nat) t v, Try.f6.params[j]? = some t → args[j]? = some v → Value.okWide Try.prog W .any base t v := hval0
  have hW' := hW
  obtain ⟨p, q, hA0, hV, rfl, hfz, hnd⟩ := hW
  have hA : DataW.TrodAll enc Try.prog W 0 (fun _ => true) true Try.f6.params.toList args.toList ds p := hA0
  rw [Try.params6] at hA hval
  obtain ⟨v0, vs0, d0, ds0, p0, q0, hargs, rfl, rfl, h0, r0⟩ := trodAll_cons hA
  obtain ⟨v1, vs1, d1, ds1, p1, q1, rfl, rfl, rfl, h1, r1⟩ := trodAll_cons r0
  obtain ⟨v2, vs2, d2, ds2, p2, q2, rfl, rfl, rfl, h2, r2⟩ := trodAll_cons r1
  obtain ⟨rfl, rfl, rfl⟩ := trodAll_nil r2
  obtain rfl : args = #[v0, v1, v2] := by cases args; simp_all
  obtain ⟨rfl, rfl⟩ := trodVars_none hV
  obtain ⟨a0, rfl, rfl, rfl, w0⟩ := open_int Try.underlying3 (hval 0 3 v0 rfl rfl) h0
  obtain ⟨a1, rfl, rfl, rfl, w1⟩ := open_int Try.underlying3 (hval 1 3 v1 rfl rfl) h1
  obtain ⟨a2, rfl, rfl, rfl, w2⟩ := open_int Try.underlying3 (hval 2 3 v2 rfl rfl) h2
  clear hA0 hval0
  simp only [List.append_nil] at hW'
  refine (walk a0 a1 a2 w0 w1 w2 W).mono fun e W' ⟨he, bel⟩ => ?_
  subst he
  exact ⟨_, rfl, _, _, _, [], [], [], hW', trodAll_mk1 (shut_bool Try.underlying4 _), (trodAll_cons_mk (shut_int Try.underlying3 w0) (trodAll_cons_mk (shut_int Try.underlying3 w1) (trodAll_cons_mk (shut_int Try.underlying3 w2) trodAll_mk0))), rfl, bel.frame _, fun h => by cases h⟩

theorem over : Rows.fxFloorRow.holds Try.pinned (OpenSpec.ofChange Rows.fxFloorSpec) :=
  OpenClaim.holds_of_wide 6 Try.f6 rfl rfl rfl rfl rfl rfl rfl ⟨rfl, rfl, rfl, rfl, rfl⟩ rfl rfl rfl rfl rfl (by kernel_rfl) Try.func6 (by kernel_rfl)
    (of_decide_eq_true (by kernel_rfl)) (by unfold Func.isWrapper; first | (rw [if_pos (by decide +kernel)]; kernel_rfl) | (rw [if_neg (by decide +kernel)]; exact ⟨rfl, rfl⟩))
    (fun os started H enc _ => lifted os started H enc)

end fxFloor

theorem fxFloor_holds : Rows.FxFloorSaid := fxFloor.over
#print axioms fxFloor_holds
end Go.Proofs.Ytbjjpccaiciahaa
