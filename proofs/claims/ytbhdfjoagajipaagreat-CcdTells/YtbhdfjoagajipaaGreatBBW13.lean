/- The document's own layer 11: Trail where it does not go. -/
import Derived.Test.YtbhdfjoagajipaaGreatBBW12
namespace Go.Proofs.YtbhdfjoagajipaaGreat
open Go.RowKit Go.Shelf
set_option linter.unusedVariables false

set_option maxHeartbeats 8000000 in
set_option maxRecDepth 100000 in
theorem rtrail_no (co : Cr) (wy : Pt) (k : Int) (pv av ev : Value) (w0 : World) (hp : Lies w0 pv co.P) (ha : Lies w0 av co.A) (he : Lies w0 ev co.E) (hno : ¬ (goB co wy = true ∧ 0 ≤ k ∧ k ≤ 16)) :
    Calls Tryz.prog 26 #[coreA pv av ev co.r, wy.v, .int .i64 k] w0 fun e W => e = .returned (coreA (.slice none 0 0) (.slice none 0 0) (.slice none 0 0) 0) ∧ Below w0.heap.size w0 W := by
  have HMA : Hid _ := fun w' (h : Below w0.heap.size w0 w') => rmay9_any co pv av ev w' (hp.below h) (ha.below h) (he.below h)
  have HMW : Hid _ := fun w' => rmay11_any wy w'
  obtain ⟨o1, c1, rfl, _⟩ := hp.form
  obtain ⟨o2, c2, rfl, _⟩ := ha.form
  obtain ⟨o3, c3, rfl, _⟩ := he.form
  have HNO : Hid _ := hno
  clear hp ha he hno
  obtain ⟨b1, hb1⟩ : ∃ x, mayC co = x := ⟨_, rfl⟩
  obtain ⟨b2, hb2⟩ : ∃ x, wy.inB 4194304 = x := ⟨_, rfl⟩
  rw [hb1] at HMA
  rw [hb2] at HMW
  have HGO : Hid (b1 = true → b2 = true → co.P.length ≤ 16 → ¬ (0 ≤ k ∧ k ≤ 16)) := fun e1 e2 h3 hk => HNO.out ⟨go_of (hb1.trans e1) h3 (hb2.trans e2), hk⟩
  clear hb1 hb2 HNO
  obtain ⟨wx, wq, wz⟩ := wy
  unfold coreA Pt.v at *
  dsimp only at *
  cases b1 with
  | false =>
    have _u := 0
    clear HGO
    obtain ⟨V, hV⟩ : ∃ V, V = (((w0.alloc (.cells #[.slice o1 co.P.length c1, .slice o2 co.A.length c2, .slice o3 co.E.length c3, .int .i64 co.r] 35)).alloc (.cells #[.int .i64 wx, .int .i64 wq, .int .i64 wz] 23)).alloc (.cells #[.slice none 0 0, .slice none 0 0, .slice none 0 0, .int .i64 0] 35)) := ⟨_, rfl⟩
    have hb0 := n_after w0 (.cells #[.slice o1 co.P.length c1, .slice o2 co.A.length c2, .slice o3 co.E.length c3, .int .i64 co.r] 35)
    have hb1 := n_after (w0.alloc (.cells #[.slice o1 co.P.length c1, .slice o2 co.A.length c2, .slice o3 co.E.length c3, .int .i64 co.r] 35)) (.cells #[.int .i64 wx, .int .i64 wq, .int .i64 wz] 23)
    have hb2 := n_after ((w0.alloc (.cells #[.slice o1 co.P.length c1, .slice o2 co.A.length c2, .slice o3 co.E.length c3, .int .i64 co.r] 35)).alloc (.cells #[.int .i64 wx, .int .i64 wq, .int .i64 wz] 23)) (.cells #[.slice none 0 0, .slice none 0 0, .slice none 0 0, .int .i64 0] 35)
    have Cc : CW V (w0.heap.size) [.slice o1 co.P.length c1, .slice o2 co.A.length c2, .slice o3 co.E.length c3, .int .i64 co.r] := by
      have h9 := ((CW.new w0 [.slice o1 co.P.length c1, .slice o2 co.A.length c2, .slice o3 co.E.length c3, .int .i64 co.r] 35).step hb1).step hb2
      rw [hV]; exact h9
    have Cw : CW V (w0.heap.size + 1) [.int .i64 wx, .int .i64 wq, .int .i64 wz] := by
      have h9 := (CW.new (w0.alloc (.cells #[.slice o1 co.P.length c1, .slice o2 co.A.length c2, .slice o3 co.E.length c3, .int .i64 co.r] 35)) [.int .i64 wx, .int .i64 wq, .int .i64 wz] 23).step hb2
      simp only [World.size_alloc] at h9
      rw [hV]; exact h9
    have Cr : CW V (w0.heap.size + 1 + 1) [.slice none 0 0, .slice none 0 0, .slice none 0 0, .int .i64 0] := by
      have h9 := CW.new ((w0.alloc (.cells #[.slice o1 co.P.length c1, .slice o2 co.A.length c2, .slice o3 co.E.length c3, .int .i64 co.r] 35)).alloc (.cells #[.int .i64 wx, .int .i64 wq, .int .i64 wz] 23)) [.slice none 0 0, .slice none 0 0, .slice none 0 0, .int .i64 0] 35
      simp only [World.size_alloc] at h9
      rw [hV]; exact h9
    have hB : Below w0.heap.size w0 V := by rw [hV]; exact (b_step (b_step hb0 hb1) hb2)
    clear hb0 hb1 hb2
    have HB : Hid _ := hB
    clear hB
    go_enter Tryz.func26, Tryz.ntmps26
    go_upto_region 1 with fail
    rw [← hV]
    clear hV
    obtain ⟨pr, hpr⟩ : ∃ p, p = w0.heap.size + 1 + 1 := ⟨_, rfl⟩
    obtain ⟨pw, hpw⟩ : ∃ p, p = w0.heap.size + 1 := ⟨_, rfl⟩
    obtain ⟨pc, hpc⟩ : ∃ p, p = w0.heap.size := ⟨_, rfl⟩
    rw [← hpr] at Cr
    rw [← hpw] at Cw
    rw [← hpc] at Cc
    rw [← hpr, ← hpw, ← hpc]
    have HPX : Hid (pc = w0.heap.size ∧ pw = w0.heap.size + 1 ∧ pr = w0.heap.size + 1 + 1) := ⟨hpc, hpw, hpr⟩
    clear hpc hpw hpr
    have Cc : Hid (CW _ _ _) := Cc
    have Cw : Hid (CW _ _ _) := Cw
    have Cr : Hid (CW _ _ _) := Cr
    have k0 := (Cc.out 0 _ rfl).1
    have k1 := (Cc.out 1 _ rfl).1
    have k2 := (Cc.out 2 _ rfl).1
    have k3 := (Cc.out 3 _ rfl).1
    go_wp2_with (fail)
    refine Calls.mono (HMA.out _ HB.out) ?_
    rintro e V1 ⟨rfl, hb⟩
    have HB : Hid (Below w0.heap.size w0 V1) := b_step HB.out hb
    have Cc : Hid (CW _ _ _) := Cc.out.step hb
    have Cw : Hid (CW _ _ _) := Cw.out.step hb
    have Cr : Hid (CW _ _ _) := Cr.out.step hb
    clear hb k0 k1 k2 k3 HMA
    have y0 := (Cw.out 0 _ rfl).1
    have y1 := (Cw.out 1 _ rfl).1
    have y2 := (Cw.out 2 _ rfl).1
    go_wp2_with (fail)
    refine Calls.mono (HMW.out _) ?_
    rintro e V2 ⟨rfl, hb⟩
    have HB : Hid (Below w0.heap.size w0 V2) := b_step HB.out hb
    have Cc : Hid (CW _ _ _) := Cc.out.step hb
    have Cr : Hid (CW _ _ _) := Cr.out.step hb
    clear hb y0 y1 y2 HMW Cw
    have k0 := (Cc.out 0 _ rfl).1
    obtain ⟨r0, rf0⟩ := Cr.out 0 _ rfl
    obtain ⟨r1, rf1⟩ := Cr.out 1 _ rfl
    obtain ⟨r2, rf2⟩ := Cr.out 2 _ rfl
    obtain ⟨r3, rf3⟩ := Cr.out 3 _ rfl
    go_wp2_with (fail)
    have hpr : w0.heap.size ≤ pr := by have := HPX.out.2.2; omega
    exact bodyPost_ret (v := .agg #[.slice none 0 0, .slice none 0 0, .slice none 0 0, .int .i64 0]) (by simp [results, Tryz.results26, go_sem, r0, r1, r2, r3]) rfl ⟨rfl, (((HB.out.setCell hpr _).setCell hpr _).setCell hpr _).setCell hpr _⟩
  | true =>
    cases b2 with
    | false =>
      have _u := 0
      clear HGO
      obtain ⟨V, hV⟩ : ∃ V, V = (((w0.alloc (.cells #[.slice o1 co.P.length c1, .slice o2 co.A.length c2, .slice o3 co.E.length c3, .int .i64 co.r] 35)).alloc (.cells #[.int .i64 wx, .int .i64 wq, .int .i64 wz] 23)).alloc (.cells #[.slice none 0 0, .slice none 0 0, .slice none 0 0, .int .i64 0] 35)) := ⟨_, rfl⟩
      have hb0 := n_after w0 (.cells #[.slice o1 co.P.length c1, .slice o2 co.A.length c2, .slice o3 co.E.length c3, .int .i64 co.r] 35)
      have hb1 := n_after (w0.alloc (.cells #[.slice o1 co.P.length c1, .slice o2 co.A.length c2, .slice o3 co.E.length c3, .int .i64 co.r] 35)) (.cells #[.int .i64 wx, .int .i64 wq, .int .i64 wz] 23)
      have hb2 := n_after ((w0.alloc (.cells #[.slice o1 co.P.length c1, .slice o2 co.A.length c2, .slice o3 co.E.length c3, .int .i64 co.r] 35)).alloc (.cells #[.int .i64 wx, .int .i64 wq, .int .i64 wz] 23)) (.cells #[.slice none 0 0, .slice none 0 0, .slice none 0 0, .int .i64 0] 35)
      have Cc : CW V (w0.heap.size) [.slice o1 co.P.length c1, .slice o2 co.A.length c2, .slice o3 co.E.length c3, .int .i64 co.r] := by
        have h9 := ((CW.new w0 [.slice o1 co.P.length c1, .slice o2 co.A.length c2, .slice o3 co.E.length c3, .int .i64 co.r] 35).step hb1).step hb2
        rw [hV]; exact h9
      have Cw : CW V (w0.heap.size + 1) [.int .i64 wx, .int .i64 wq, .int .i64 wz] := by
        have h9 := (CW.new (w0.alloc (.cells #[.slice o1 co.P.length c1, .slice o2 co.A.length c2, .slice o3 co.E.length c3, .int .i64 co.r] 35)) [.int .i64 wx, .int .i64 wq, .int .i64 wz] 23).step hb2
        simp only [World.size_alloc] at h9
        rw [hV]; exact h9
      have Cr : CW V (w0.heap.size + 1 + 1) [.slice none 0 0, .slice none 0 0, .slice none 0 0, .int .i64 0] := by
        have h9 := CW.new ((w0.alloc (.cells #[.slice o1 co.P.length c1, .slice o2 co.A.length c2, .slice o3 co.E.length c3, .int .i64 co.r] 35)).alloc (.cells #[.int .i64 wx, .int .i64 wq, .int .i64 wz] 23)) [.slice none 0 0, .slice none 0 0, .slice none 0 0, .int .i64 0] 35
        simp only [World.size_alloc] at h9
        rw [hV]; exact h9
      have hB : Below w0.heap.size w0 V := by rw [hV]; exact (b_step (b_step hb0 hb1) hb2)
      clear hb0 hb1 hb2
      have HB : Hid _ := hB
      clear hB
      go_enter Tryz.func26, Tryz.ntmps26
      go_upto_region 1 with fail
      rw [← hV]
      clear hV
      obtain ⟨pr, hpr⟩ : ∃ p, p = w0.heap.size + 1 + 1 := ⟨_, rfl⟩
      obtain ⟨pw, hpw⟩ : ∃ p, p = w0.heap.size + 1 := ⟨_, rfl⟩
      obtain ⟨pc, hpc⟩ : ∃ p, p = w0.heap.size := ⟨_, rfl⟩
      rw [← hpr] at Cr
      rw [← hpw] at Cw
      rw [← hpc] at Cc
      rw [← hpr, ← hpw, ← hpc]
      have HPX : Hid (pc = w0.heap.size ∧ pw = w0.heap.size + 1 ∧ pr = w0.heap.size + 1 + 1) := ⟨hpc, hpw, hpr⟩
      clear hpc hpw hpr
      have Cc : Hid (CW _ _ _) := Cc
      have Cw : Hid (CW _ _ _) := Cw
      have Cr : Hid (CW _ _ _) := Cr
      have k0 := (Cc.out 0 _ rfl).1
      have k1 := (Cc.out 1 _ rfl).1
      have k2 := (Cc.out 2 _ rfl).1
      have k3 := (Cc.out 3 _ rfl).1
      go_wp2_with (fail)
      refine Calls.mono (HMA.out _ HB.out) ?_
      rintro e V1 ⟨rfl, hb⟩
      have HB : Hid (Below w0.heap.size w0 V1) := b_step HB.out hb
      have Cc : Hid (CW _ _ _) := Cc.out.step hb
      have Cw : Hid (CW _ _ _) := Cw.out.step hb
      have Cr : Hid (CW _ _ _) := Cr.out.step hb
      clear hb k0 k1 k2 k3 HMA
      have y0 := (Cw.out 0 _ rfl).1
      have y1 := (Cw.out 1 _ rfl).1
      have y2 := (Cw.out 2 _ rfl).1
      go_wp2_with (fail)
      refine Calls.mono (HMW.out _) ?_
      rintro e V2 ⟨rfl, hb⟩
      have HB : Hid (Below w0.heap.size w0 V2) := b_step HB.out hb
      have Cc : Hid (CW _ _ _) := Cc.out.step hb
      have Cr : Hid (CW _ _ _) := Cr.out.step hb
      clear hb y0 y1 y2 HMW Cw
      have k0 := (Cc.out 0 _ rfl).1
      obtain ⟨r0, rf0⟩ := Cr.out 0 _ rfl
      obtain ⟨r1, rf1⟩ := Cr.out 1 _ rfl
      obtain ⟨r2, rf2⟩ := Cr.out 2 _ rfl
      obtain ⟨r3, rf3⟩ := Cr.out 3 _ rfl
      go_wp2_with (fail)
      have hpr : w0.heap.size ≤ pr := by have := HPX.out.2.2; omega
      exact bodyPost_ret (v := .agg #[.slice none 0 0, .slice none 0 0, .slice none 0 0, .int .i64 0]) (by simp [results, Tryz.results26, go_sem, r0, r1, r2, r3]) rfl ⟨rfl, (((HB.out.setCell hpr _).setCell hpr _).setCell hpr _).setCell hpr _⟩
    | true =>
      by_cases h3 : co.P.length ≤ 16
      case neg =>
        have hp16 : (16 : Int) < (co.P.length : Int) := by omega
        clear HGO
        obtain ⟨V, hV⟩ : ∃ V, V = (((w0.alloc (.cells #[.slice o1 co.P.length c1, .slice o2 co.A.length c2, .slice o3 co.E.length c3, .int .i64 co.r] 35)).alloc (.cells #[.int .i64 wx, .int .i64 wq, .int .i64 wz] 23)).alloc (.cells #[.slice none 0 0, .slice none 0 0, .slice none 0 0, .int .i64 0] 35)) := ⟨_, rfl⟩
        have hb0 := n_after w0 (.cells #[.slice o1 co.P.length c1, .slice o2 co.A.length c2, .slice o3 co.E.length c3, .int .i64 co.r] 35)
        have hb1 := n_after (w0.alloc (.cells #[.slice o1 co.P.length c1, .slice o2 co.A.length c2, .slice o3 co.E.length c3, .int .i64 co.r] 35)) (.cells #[.int .i64 wx, .int .i64 wq, .int .i64 wz] 23)
        have hb2 := n_after ((w0.alloc (.cells #[.slice o1 co.P.length c1, .slice o2 co.A.length c2, .slice o3 co.E.length c3, .int .i64 co.r] 35)).alloc (.cells #[.int .i64 wx, .int .i64 wq, .int .i64 wz] 23)) (.cells #[.slice none 0 0, .slice none 0 0, .slice none 0 0, .int .i64 0] 35)
        have Cc : CW V (w0.heap.size) [.slice o1 co.P.length c1, .slice o2 co.A.length c2, .slice o3 co.E.length c3, .int .i64 co.r] := by
          have h9 := ((CW.new w0 [.slice o1 co.P.length c1, .slice o2 co.A.length c2, .slice o3 co.E.length c3, .int .i64 co.r] 35).step hb1).step hb2
          rw [hV]; exact h9
        have Cw : CW V (w0.heap.size + 1) [.int .i64 wx, .int .i64 wq, .int .i64 wz] := by
          have h9 := (CW.new (w0.alloc (.cells #[.slice o1 co.P.length c1, .slice o2 co.A.length c2, .slice o3 co.E.length c3, .int .i64 co.r] 35)) [.int .i64 wx, .int .i64 wq, .int .i64 wz] 23).step hb2
          simp only [World.size_alloc] at h9
          rw [hV]; exact h9
        have Cr : CW V (w0.heap.size + 1 + 1) [.slice none 0 0, .slice none 0 0, .slice none 0 0, .int .i64 0] := by
          have h9 := CW.new ((w0.alloc (.cells #[.slice o1 co.P.length c1, .slice o2 co.A.length c2, .slice o3 co.E.length c3, .int .i64 co.r] 35)).alloc (.cells #[.int .i64 wx, .int .i64 wq, .int .i64 wz] 23)) [.slice none 0 0, .slice none 0 0, .slice none 0 0, .int .i64 0] 35
          simp only [World.size_alloc] at h9
          rw [hV]; exact h9
        have hB : Below w0.heap.size w0 V := by rw [hV]; exact (b_step (b_step hb0 hb1) hb2)
        clear hb0 hb1 hb2
        have HB : Hid _ := hB
        clear hB
        go_enter Tryz.func26, Tryz.ntmps26
        go_upto_region 1 with fail
        rw [← hV]
        clear hV
        obtain ⟨pr, hpr⟩ : ∃ p, p = w0.heap.size + 1 + 1 := ⟨_, rfl⟩
        obtain ⟨pw, hpw⟩ : ∃ p, p = w0.heap.size + 1 := ⟨_, rfl⟩
        obtain ⟨pc, hpc⟩ : ∃ p, p = w0.heap.size := ⟨_, rfl⟩
        rw [← hpr] at Cr
        rw [← hpw] at Cw
        rw [← hpc] at Cc
        rw [← hpr, ← hpw, ← hpc]
        have HPX : Hid (pc = w0.heap.size ∧ pw = w0.heap.size + 1 ∧ pr = w0.heap.size + 1 + 1) := ⟨hpc, hpw, hpr⟩
        clear hpc hpw hpr
        have Cc : Hid (CW _ _ _) := Cc
        have Cw : Hid (CW _ _ _) := Cw
        have Cr : Hid (CW _ _ _) := Cr
        have k0 := (Cc.out 0 _ rfl).1
        have k1 := (Cc.out 1 _ rfl).1
        have k2 := (Cc.out 2 _ rfl).1
        have k3 := (Cc.out 3 _ rfl).1
        go_wp2_with (fail)
        refine Calls.mono (HMA.out _ HB.out) ?_
        rintro e V1 ⟨rfl, hb⟩
        have HB : Hid (Below w0.heap.size w0 V1) := b_step HB.out hb
        have Cc : Hid (CW _ _ _) := Cc.out.step hb
        have Cw : Hid (CW _ _ _) := Cw.out.step hb
        have Cr : Hid (CW _ _ _) := Cr.out.step hb
        clear hb k0 k1 k2 k3 HMA
        have y0 := (Cw.out 0 _ rfl).1
        have y1 := (Cw.out 1 _ rfl).1
        have y2 := (Cw.out 2 _ rfl).1
        go_wp2_with (fail)
        refine Calls.mono (HMW.out _) ?_
        rintro e V2 ⟨rfl, hb⟩
        have HB : Hid (Below w0.heap.size w0 V2) := b_step HB.out hb
        have Cc : Hid (CW _ _ _) := Cc.out.step hb
        have Cr : Hid (CW _ _ _) := Cr.out.step hb
        clear hb y0 y1 y2 HMW Cw
        have k0 := (Cc.out 0 _ rfl).1
        obtain ⟨r0, rf0⟩ := Cr.out 0 _ rfl
        obtain ⟨r1, rf1⟩ := Cr.out 1 _ rfl
        obtain ⟨r2, rf2⟩ := Cr.out 2 _ rfl
        obtain ⟨r3, rf3⟩ := Cr.out 3 _ rfl
        go_wp2_with (fail)
        have hpr : w0.heap.size ≤ pr := by have := HPX.out.2.2; omega
        exact bodyPost_ret (v := .agg #[.slice none 0 0, .slice none 0 0, .slice none 0 0, .int .i64 0]) (by simp [results, Tryz.results26, go_sem, r0, r1, r2, r3]) rfl ⟨rfl, (((HB.out.setCell hpr _).setCell hpr _).setCell hpr _).setCell hpr _⟩
      case pos =>
        have hp16 : ¬ (16 : Int) < (co.P.length : Int) := by omega
        have h9 := HGO.out rfl rfl h3
        by_cases hk1 : k < 0
        · clear HGO
          obtain ⟨V, hV⟩ : ∃ V, V = (((w0.alloc (.cells #[.slice o1 co.P.length c1, .slice o2 co.A.length c2, .slice o3 co.E.length c3, .int .i64 co.r] 35)).alloc (.cells #[.int .i64 wx, .int .i64 wq, .int .i64 wz] 23)).alloc (.cells #[.slice none 0 0, .slice none 0 0, .slice none 0 0, .int .i64 0] 35)) := ⟨_, rfl⟩
          have hb0 := n_after w0 (.cells #[.slice o1 co.P.length c1, .slice o2 co.A.length c2, .slice o3 co.E.length c3, .int .i64 co.r] 35)
          have hb1 := n_after (w0.alloc (.cells #[.slice o1 co.P.length c1, .slice o2 co.A.length c2, .slice o3 co.E.length c3, .int .i64 co.r] 35)) (.cells #[.int .i64 wx, .int .i64 wq, .int .i64 wz] 23)
          have hb2 := n_after ((w0.alloc (.cells #[.slice o1 co.P.length c1, .slice o2 co.A.length c2, .slice o3 co.E.length c3, .int .i64 co.r] 35)).alloc (.cells #[.int .i64 wx, .int .i64 wq, .int .i64 wz] 23)) (.cells #[.slice none 0 0, .slice none 0 0, .slice none 0 0, .int .i64 0] 35)
          have Cc : CW V (w0.heap.size) [.slice o1 co.P.length c1, .slice o2 co.A.length c2, .slice o3 co.E.length c3, .int .i64 co.r] := by
            have h9 := ((CW.new w0 [.slice o1 co.P.length c1, .slice o2 co.A.length c2, .slice o3 co.E.length c3, .int .i64 co.r] 35).step hb1).step hb2
            rw [hV]; exact h9
          have Cw : CW V (w0.heap.size + 1) [.int .i64 wx, .int .i64 wq, .int .i64 wz] := by
            have h9 := (CW.new (w0.alloc (.cells #[.slice o1 co.P.length c1, .slice o2 co.A.length c2, .slice o3 co.E.length c3, .int .i64 co.r] 35)) [.int .i64 wx, .int .i64 wq, .int .i64 wz] 23).step hb2
            simp only [World.size_alloc] at h9
            rw [hV]; exact h9
          have Cr : CW V (w0.heap.size + 1 + 1) [.slice none 0 0, .slice none 0 0, .slice none 0 0, .int .i64 0] := by
            have h9 := CW.new ((w0.alloc (.cells #[.slice o1 co.P.length c1, .slice o2 co.A.length c2, .slice o3 co.E.length c3, .int .i64 co.r] 35)).alloc (.cells #[.int .i64 wx, .int .i64 wq, .int .i64 wz] 23)) [.slice none 0 0, .slice none 0 0, .slice none 0 0, .int .i64 0] 35
            simp only [World.size_alloc] at h9
            rw [hV]; exact h9
          have hB : Below w0.heap.size w0 V := by rw [hV]; exact (b_step (b_step hb0 hb1) hb2)
          clear hb0 hb1 hb2
          have HB : Hid _ := hB
          clear hB
          go_enter Tryz.func26, Tryz.ntmps26
          go_upto_region 1 with fail
          rw [← hV]
          clear hV
          obtain ⟨pr, hpr⟩ : ∃ p, p = w0.heap.size + 1 + 1 := ⟨_, rfl⟩
          obtain ⟨pw, hpw⟩ : ∃ p, p = w0.heap.size + 1 := ⟨_, rfl⟩
          obtain ⟨pc, hpc⟩ : ∃ p, p = w0.heap.size := ⟨_, rfl⟩
          rw [← hpr] at Cr
          rw [← hpw] at Cw
          rw [← hpc] at Cc
          rw [← hpr, ← hpw, ← hpc]
          have HPX : Hid (pc = w0.heap.size ∧ pw = w0.heap.size + 1 ∧ pr = w0.heap.size + 1 + 1) := ⟨hpc, hpw, hpr⟩
          clear hpc hpw hpr
          have Cc : Hid (CW _ _ _) := Cc
          have Cw : Hid (CW _ _ _) := Cw
          have Cr : Hid (CW _ _ _) := Cr
          have k0 := (Cc.out 0 _ rfl).1
          have k1 := (Cc.out 1 _ rfl).1
          have k2 := (Cc.out 2 _ rfl).1
          have k3 := (Cc.out 3 _ rfl).1
          go_wp2_with (fail)
          refine Calls.mono (HMA.out _ HB.out) ?_
          rintro e V1 ⟨rfl, hb⟩
          have HB : Hid (Below w0.heap.size w0 V1) := b_step HB.out hb
          have Cc : Hid (CW _ _ _) := Cc.out.step hb
          have Cw : Hid (CW _ _ _) := Cw.out.step hb
          have Cr : Hid (CW _ _ _) := Cr.out.step hb
          clear hb k0 k1 k2 k3 HMA
          have y0 := (Cw.out 0 _ rfl).1
          have y1 := (Cw.out 1 _ rfl).1
          have y2 := (Cw.out 2 _ rfl).1
          go_wp2_with (fail)
          refine Calls.mono (HMW.out _) ?_
          rintro e V2 ⟨rfl, hb⟩
          have HB : Hid (Below w0.heap.size w0 V2) := b_step HB.out hb
          have Cc : Hid (CW _ _ _) := Cc.out.step hb
          have Cr : Hid (CW _ _ _) := Cr.out.step hb
          clear hb y0 y1 y2 HMW Cw
          have k0 := (Cc.out 0 _ rfl).1
          obtain ⟨r0, rf0⟩ := Cr.out 0 _ rfl
          obtain ⟨r1, rf1⟩ := Cr.out 1 _ rfl
          obtain ⟨r2, rf2⟩ := Cr.out 2 _ rfl
          obtain ⟨r3, rf3⟩ := Cr.out 3 _ rfl
          go_wp2_with (fail)
          have hpr : w0.heap.size ≤ pr := by have := HPX.out.2.2; omega
          exact bodyPost_ret (v := .agg #[.slice none 0 0, .slice none 0 0, .slice none 0 0, .int .i64 0]) (by simp [results, Tryz.results26, go_sem, r0, r1, r2, r3]) rfl ⟨rfl, (((HB.out.setCell hpr _).setCell hpr _).setCell hpr _).setCell hpr _⟩
        have hk2 : (16 : Int) < k := by omega
        clear HGO
        obtain ⟨V, hV⟩ : ∃ V, V = (((w0.alloc (.cells #[.slice o1 co.P.length c1, .slice o2 co.A.length c2, .slice o3 co.E.length c3, .int .i64 co.r] 35)).alloc (.cells #[.int .i64 wx, .int .i64 wq, .int .i64 wz] 23)).alloc (.cells #[.slice none 0 0, .slice none 0 0, .slice none 0 0, .int .i64 0] 35)) := ⟨_, rfl⟩
        have hb0 := n_after w0 (.cells #[.slice o1 co.P.length c1, .slice o2 co.A.length c2, .slice o3 co.E.length c3, .int .i64 co.r] 35)
        have hb1 := n_after (w0.alloc (.cells #[.slice o1 co.P.length c1, .slice o2 co.A.length c2, .slice o3 co.E.length c3, .int .i64 co.r] 35)) (.cells #[.int .i64 wx, .int .i64 wq, .int .i64 wz] 23)
        have hb2 := n_after ((w0.alloc (.cells #[.slice o1 co.P.length c1, .slice o2 co.A.length c2, .slice o3 co.E.length c3, .int .i64 co.r] 35)).alloc (.cells #[.int .i64 wx, .int .i64 wq, .int .i64 wz] 23)) (.cells #[.slice none 0 0, .slice none 0 0, .slice none 0 0, .int .i64 0] 35)
        have Cc : CW V (w0.heap.size) [.slice o1 co.P.length c1, .slice o2 co.A.length c2, .slice o3 co.E.length c3, .int .i64 co.r] := by
          have h9 := ((CW.new w0 [.slice o1 co.P.length c1, .slice o2 co.A.length c2, .slice o3 co.E.length c3, .int .i64 co.r] 35).step hb1).step hb2
          rw [hV]; exact h9
        have Cw : CW V (w0.heap.size + 1) [.int .i64 wx, .int .i64 wq, .int .i64 wz] := by
          have h9 := (CW.new (w0.alloc (.cells #[.slice o1 co.P.length c1, .slice o2 co.A.length c2, .slice o3 co.E.length c3, .int .i64 co.r] 35)) [.int .i64 wx, .int .i64 wq, .int .i64 wz] 23).step hb2
          simp only [World.size_alloc] at h9
          rw [hV]; exact h9
        have Cr : CW V (w0.heap.size + 1 + 1) [.slice none 0 0, .slice none 0 0, .slice none 0 0, .int .i64 0] := by
          have h9 := CW.new ((w0.alloc (.cells #[.slice o1 co.P.length c1, .slice o2 co.A.length c2, .slice o3 co.E.length c3, .int .i64 co.r] 35)).alloc (.cells #[.int .i64 wx, .int .i64 wq, .int .i64 wz] 23)) [.slice none 0 0, .slice none 0 0, .slice none 0 0, .int .i64 0] 35
          simp only [World.size_alloc] at h9
          rw [hV]; exact h9
        have hB : Below w0.heap.size w0 V := by rw [hV]; exact (b_step (b_step hb0 hb1) hb2)
        clear hb0 hb1 hb2
        have HB : Hid _ := hB
        clear hB
        go_enter Tryz.func26, Tryz.ntmps26
        go_upto_region 1 with fail
        rw [← hV]
        clear hV
        obtain ⟨pr, hpr⟩ : ∃ p, p = w0.heap.size + 1 + 1 := ⟨_, rfl⟩
        obtain ⟨pw, hpw⟩ : ∃ p, p = w0.heap.size + 1 := ⟨_, rfl⟩
        obtain ⟨pc, hpc⟩ : ∃ p, p = w0.heap.size := ⟨_, rfl⟩
        rw [← hpr] at Cr
        rw [← hpw] at Cw
        rw [← hpc] at Cc
        rw [← hpr, ← hpw, ← hpc]
        have HPX : Hid (pc = w0.heap.size ∧ pw = w0.heap.size + 1 ∧ pr = w0.heap.size + 1 + 1) := ⟨hpc, hpw, hpr⟩
        clear hpc hpw hpr
        have Cc : Hid (CW _ _ _) := Cc
        have Cw : Hid (CW _ _ _) := Cw
        have Cr : Hid (CW _ _ _) := Cr
        have k0 := (Cc.out 0 _ rfl).1
        have k1 := (Cc.out 1 _ rfl).1
        have k2 := (Cc.out 2 _ rfl).1
        have k3 := (Cc.out 3 _ rfl).1
        go_wp2_with (fail)
        refine Calls.mono (HMA.out _ HB.out) ?_
        rintro e V1 ⟨rfl, hb⟩
        have HB : Hid (Below w0.heap.size w0 V1) := b_step HB.out hb
        have Cc : Hid (CW _ _ _) := Cc.out.step hb
        have Cw : Hid (CW _ _ _) := Cw.out.step hb
        have Cr : Hid (CW _ _ _) := Cr.out.step hb
        clear hb k0 k1 k2 k3 HMA
        have y0 := (Cw.out 0 _ rfl).1
        have y1 := (Cw.out 1 _ rfl).1
        have y2 := (Cw.out 2 _ rfl).1
        go_wp2_with (fail)
        refine Calls.mono (HMW.out _) ?_
        rintro e V2 ⟨rfl, hb⟩
        have HB : Hid (Below w0.heap.size w0 V2) := b_step HB.out hb
        have Cc : Hid (CW _ _ _) := Cc.out.step hb
        have Cr : Hid (CW _ _ _) := Cr.out.step hb
        clear hb y0 y1 y2 HMW Cw
        have k0 := (Cc.out 0 _ rfl).1
        obtain ⟨r0, rf0⟩ := Cr.out 0 _ rfl
        obtain ⟨r1, rf1⟩ := Cr.out 1 _ rfl
        obtain ⟨r2, rf2⟩ := Cr.out 2 _ rfl
        obtain ⟨r3, rf3⟩ := Cr.out 3 _ rfl
        go_wp2_with (fail)
        have hpr : w0.heap.size ≤ pr := by have := HPX.out.2.2; omega
        exact bodyPost_ret (v := .agg #[.slice none 0 0, .slice none 0 0, .slice none 0 0, .int .i64 0]) (by simp [results, Tryz.results26, go_sem, r0, r1, r2, r3]) rfl ⟨rfl, (((HB.out.setCell hpr _).setCell hpr _).setCell hpr _).setCell hpr _⟩


theorem rtrail_any (co : Cr) (wy : Pt) (k : Int) (pv av ev : Value) (w0 : World) (hp : Lies w0 pv co.P) (ha : Lies w0 av co.A) (he : Lies w0 ev co.E) :
    Calls Tryz.prog 26 #[coreA pv av ev co.r, wy.v, .int .i64 k] w0 fun e W => ∃ vp va ve, e = .returned (coreA vp va ve (trailC co wy k).r) ∧ Own3 w0 W vp va ve (trailC co wy k).P (trailC co wy k).A (trailC co wy k).E := by
  by_cases h : goB co wy = true ∧ 0 ≤ k ∧ k ≤ 16
  · have e : trailC co wy k = ⟨co.P ++ co.P.map (·.mov (wayBy wy k)), keepD (co.A ++ co.E.map (fun e => (e.cross wy.short).short)), keepD (co.E ++ [wy.short]), co.r⟩ := by unfold trailC; rw [h.1, decide_eq_true h.2]; rfl
    rw [e]
    exact rtrail_yes co wy k pv av ev w0 hp ha he h.1 h.2
  · have e : trailC co wy k = nilC := by
      unfold trailC
      rw [if_neg]
      intro h9
      rw [Bool.and_eq_true, decide_eq_true_eq] at h9
      exact h h9
    rw [e]
    refine Calls.mono (rtrail_no co wy k pv av ev w0 hp ha he h) ?_
    rintro e W ⟨rfl, hb⟩
    exact ⟨_, _, _, rfl, ⟨World.ownsRow_nil _ _ _ _, World.ownsRow_nil _ _ _ _, World.ownsRow_nil _ _ _ _, hb⟩⟩
end Go.Proofs.YtbhdfjoagajipaaGreat
