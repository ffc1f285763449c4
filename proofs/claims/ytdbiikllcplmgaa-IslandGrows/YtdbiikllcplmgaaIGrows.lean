/- A link more makes groups greater, never less, and of two things that it does not join nothing changes but by that: true of all counts, links and things. -/
import Derived.Test.YtdbiikllcplmgaaIsH
import Derived.ProofKit
namespace Go.Proofs.Ytdbiikllcplmgaa
namespace islandGrows
open Go.ChangeShapes Go.WideShapes Go.ChangeAt Go.RowKit Go.Shelf
set_option linter.unusedVariables false

theorem own : ownKnob Try.prog.godebug = none := by kernel_rfl
theorem laidOut : laidOutB Try.prog = true := by kernel_rfl

set_option maxHeartbeats 4000000 in
set_option maxRecDepth 100000 in
theorem walk (a0 : Int) (o1 : Option Addr) (L1 : List (Int × Int)) (c1 : Nat) (a2 : Int) (a3 : Int) (w0 : World) (ba0 : -9223372036854775808 ≤ a0 ∧ a0 ≤ 9223372036854775807) (hL1 : RdL w0 (.slice o1 L1.length c1) L1) (hb1 : ∀ l ∈ L1, (-9223372036854775808 ≤ l.1 ∧ l.1 ≤ 9223372036854775807) ∧ (-9223372036854775808 ≤ l.2 ∧ l.2 ≤ 9223372036854775807)) (ba2 : -9223372036854775808 ≤ a2 ∧ a2 ≤ 9223372036854775807) (ba3 : -9223372036854775808 ≤ a3 ∧ a3 ≤ 9223372036854775807) :
    Calls Try.prog 5 #[.int .i64 a0, .slice o1 L1.length c1, .int .i64 a2, .int .i64 a3] w0 fun e W => e = .returned (.bool true) ∧ Below w0.heap.size w0 W := by
  obtain ⟨i0, hii, hiz, hisz, hib⟩ := info_parts link_info
  have HI : Hid _ := And.intro hii (And.intro hiz (And.intro hisz hib))
  clear hii hiz hisz hib
  have HLB : Hid _ := hb1
  obtain ⟨_, _, e1, hc1, hcm1, hcell⟩ := hL1.form
  cases e1
  have HC : Hid _ := hcell
  clear hL1 hb1 hcell
  have HA : Hid _ := awake_any w0
  have HPK : Hid (∀ c n : Int, (-9223372036854775808 ≤ c ∧ c ≤ 9223372036854775807) → 0 < n → n ≤ 50 → ∀ w, Calls Try.prog 15 #[.int .i64 c, .int .i64 n] w fun e W => e = .returned (.int .i64 (pickY c n)) ∧ Below w.heap.size w W) := fun c n hc hn hn2 w =>
    Calls.mono (npick_any c n w hc hn (by omega)) (by rintro e W ⟨rfl, rfl⟩; exact ⟨rfl, Below.refl _ _⟩)
  have hpa := pickY_lo a0 (n := 50) (by decide)
  have hpb := pickY_hi a0 (n := 50) (by decide)
  obtain ⟨N, hN⟩ : ∃ N : Nat, 1 + pickY a0 50 = (N : Int) := ⟨(1 + pickY a0 50).toNat, by omega⟩
  have hn0 : 0 < N := by omega
  have hn1 : N ≤ 50 := by omega
  have HNE : Hid _ := hN
  clear hN
  go_enter Try.func5, Try.ntmps5
  go_wp2_with (fail)
  refine Calls.mono HA.out ?_
  clear HA
  rintro e W1 ⟨rfl, b1⟩
  have B1 : Hid _ := b1
  clear b1
  go_wp2_with (fail)
  refine Calls.mono (HPK.out a0 50 ba0 (by decide) (by decide) W1) ?_
  rintro e W2 ⟨rfl, b2⟩
  have B2 : Hid _ := b_step B1.out b2
  clear b2 B1
  obtain ⟨m0, hm0⟩ : ∃ m0, m0 = min L1.length 100 := ⟨_, rfl⟩
  have hm1 : m0 ≤ L1.length := by omega
  have hm2 : m0 ≤ 100 := by omega
  have hm3 : m0 < L1.length → 100 ≤ m0 := by omega
  have HM3 : Hid _ := hm3
  clear hm0 hm3
  have HST : Hid (LOwn w0 W2 (.slice none 0 0) (pk N L1 0)) := ⟨by rw [pk_zero]; exact World.ownsRow_nil _ _ _ _, B2.out⟩
  go_wp2_with (fail)
  rw [HNE.out]
  clear hpa hpb HNE
  go_loopg [10, 11] m0 (fun gm u j wr => ∃ k : Nat, j = .int .i64 (k : Int) ∧ k ≤ m0 ∧ gm = m0 - k ∧ Hid (LOwn w0 wr u (pk N L1 k)))
  case atStart => exact ⟨0, rfl, Nat.zero_le _, rfl, HST⟩
  case round =>
    clear HST B2
    obtain ⟨k, rfl, hk, hgm, HO⟩ := hrel
    have HM : Hid _ := hgm
    clear hgm
    by_cases hlt : k < m0
    · have hltl : k < L1.length := by omega
      have hlt100 : k < 100 := by omega
      obtain ⟨gb, ob, x, y, rfl, hz, x0, y0⟩ := HC.out k hltl
      have hbd := HLB.out _ (List.mem_of_getElem? hz)
      have x0 := c_after HO.out.below x0
      have y0 := c_after HO.out.below y0
      have HMS : Hid _ := pk_snoc (n := N) hz
      have hml := pk_length (n := N) (L := L1) (k := k) (by omega)
      have HPX : Hid _ := HPK.out x N hbd.1 (by omega) (by omega)
      have HPY : Hid _ := HPK.out y N hbd.2 (by omega) (by omega)
      generalize pickY x N = px at *
      generalize pickY y N = py at *
      generalize pk N L1 k = M at *
      clear hz hbd HC
      go_upto_region 7 with fail
      refine RV.region_by2 (fun j v w => match j with | 0 => v = u10 | 1 => v = .slice (some ⟨gb, ob, none⟩) L1.length c1 | 2 => v = .int .i64 (k : Int) | 3 => v = .pointer (some ⟨gb, ob + k * 2, none⟩) | 4 => v = .pointer (some ⟨gb, ob + k * 2, none⟩) | 5 => v = .int .i64 x | 6 => v = .int .i64 (N : Int) | 7 => v = .int .i64 px | 8 => v = .slice (some ⟨gb, ob, none⟩) L1.length c1 | 9 => v = .int .i64 (k : Int) | 10 => v = .pointer (some ⟨gb, ob + k * 2, none⟩) | 11 => v = .pointer (some ⟨gb, ob + k * 2 + 1, none⟩) | 12 => v = .int .i64 y | 13 => v = .int .i64 (N : Int) | 14 => v = .int .i64 py | 15 => v = .agg #[.int .i64 px, .int .i64 py] | 16 => True | 17 => True | 18 => True | _ => True) (fun γ L w => AG 1 16 17 18 wr w0.heap.size (u10) M.length (flat M) [.int .i64 px, .int .i64 py] γ L w) (by kernel_rfl) (by kernel_rfl) (by kernel_rfl) (by kernel_rfl) ?_ ?_ ?_
      · exact AG.start rfl rfl rfl (Below.refl _ wr).drew
      · generalize hD : dstOf _ = D
        generalize hWA : waitsFor _ = WA
        generalize hZ : Act.mk _ _ = Z
        obtain ⟨R, hR⟩ : ∃ R : Nat → Value → World → Prop, R = (fun j v w => match j with | 0 => v = u10 | 1 => v = .slice (some ⟨gb, ob, none⟩) L1.length c1 | 2 => v = .int .i64 (k : Int) | 3 => v = .pointer (some ⟨gb, ob + k * 2, none⟩) | 4 => v = .pointer (some ⟨gb, ob + k * 2, none⟩) | 5 => v = .int .i64 x | 6 => v = .int .i64 (N : Int) | 7 => v = .int .i64 px | 8 => v = .slice (some ⟨gb, ob, none⟩) L1.length c1 | 9 => v = .int .i64 (k : Int) | 10 => v = .pointer (some ⟨gb, ob + k * 2, none⟩) | 11 => v = .pointer (some ⟨gb, ob + k * 2 + 1, none⟩) | 12 => v = .int .i64 y | 13 => v = .int .i64 (N : Int) | 14 => v = .int .i64 py | 15 => v = .agg #[.int .i64 px, .int .i64 py] | 16 => True | 17 => True | 18 => True | _ => True) := ⟨_, rfl⟩
        rw [← hR]
        have d0 : D 0 = some 30 := by rw [← hD]; rfl
        have d1 : D 1 = some 31 := by rw [← hD]; rfl
        have d2 : D 2 = some 32 := by rw [← hD]; rfl
        have d3 : D 3 = some 33 := by rw [← hD]; rfl
        have d4 : D 4 = some 34 := by rw [← hD]; rfl
        have d5 : D 5 = some 35 := by rw [← hD]; rfl
        have d6 : D 6 = some 36 := by rw [← hD]; rfl
        have d7 : D 7 = some 37 := by rw [← hD]; rfl
        have d8 : D 8 = some 38 := by rw [← hD]; rfl
        have d9 : D 9 = some 39 := by rw [← hD]; rfl
        have d10 : D 10 = some 40 := by rw [← hD]; rfl
        have d11 : D 11 = some 41 := by rw [← hD]; rfl
        have d12 : D 12 = some 42 := by rw [← hD]; rfl
        have d13 : D 13 = some 43 := by rw [← hD]; rfl
        have d14 : D 14 = some 44 := by rw [← hD]; rfl
        have d15 : D 15 = some 45 := by rw [← hD]; rfl
        have d16 : D 16 = some 46 := by rw [← hD]; rfl
        have d17 : D 17 = some 47 := by rw [← hD]; rfl
        have d18 : D 18 = some 10 := by rw [← hD]; rfl
        have r0 : ∀ v w, R 0 v w = (v = u10) := fun v w => by rw [hR]; rfl
        have r1 : ∀ v w, R 1 v w = (v = .slice (some ⟨gb, ob, none⟩) L1.length c1) := fun v w => by rw [hR]; rfl
        have r2 : ∀ v w, R 2 v w = (v = .int .i64 (k : Int)) := fun v w => by rw [hR]; rfl
        have r3 : ∀ v w, R 3 v w = (v = .pointer (some ⟨gb, ob + k * 2, none⟩)) := fun v w => by rw [hR]; rfl
        have r4 : ∀ v w, R 4 v w = (v = .pointer (some ⟨gb, ob + k * 2, none⟩)) := fun v w => by rw [hR]; rfl
        have r5 : ∀ v w, R 5 v w = (v = .int .i64 x) := fun v w => by rw [hR]; rfl
        have r6 : ∀ v w, R 6 v w = (v = .int .i64 (N : Int)) := fun v w => by rw [hR]; rfl
        have r7 : ∀ v w, R 7 v w = (v = .int .i64 px) := fun v w => by rw [hR]; rfl
        have r8 : ∀ v w, R 8 v w = (v = .slice (some ⟨gb, ob, none⟩) L1.length c1) := fun v w => by rw [hR]; rfl
        have r9 : ∀ v w, R 9 v w = (v = .int .i64 (k : Int)) := fun v w => by rw [hR]; rfl
        have r10 : ∀ v w, R 10 v w = (v = .pointer (some ⟨gb, ob + k * 2, none⟩)) := fun v w => by rw [hR]; rfl
        have r11 : ∀ v w, R 11 v w = (v = .pointer (some ⟨gb, ob + k * 2 + 1, none⟩)) := fun v w => by rw [hR]; rfl
        have r12 : ∀ v w, R 12 v w = (v = .int .i64 y) := fun v w => by rw [hR]; rfl
        have r13 : ∀ v w, R 13 v w = (v = .int .i64 (N : Int)) := fun v w => by rw [hR]; rfl
        have r14 : ∀ v w, R 14 v w = (v = .int .i64 py) := fun v w => by rw [hR]; rfl
        have r15 : ∀ v w, R 15 v w = (v = .agg #[.int .i64 px, .int .i64 py]) := fun v w => by rw [hR]; rfl
        have r16 : ∀ v w, R 16 v w = (True) := fun v w => by rw [hR]; rfl
        have r17 : ∀ v w, R 17 v w = (True) := fun v w => by rw [hR]; rfl
        have r18 : ∀ v w, R 18 v w = (True) := fun v w => by rw [hR]; rfl
        have X10 : ∀ j, D j = some 10 → j = 18 := fun j hj => by rw [← hD] at hj; exact dst_once (by kernel_rfl) hj rfl
        have Y10 : Z.tmps[10]? = some (u10) := by rw [← hZ]; rfl
        have LA_18_0 : WA 18 0 := by rw [← hWA]; exact ⟨_, rfl, ⟨0, .phase⟩, by simp, rfl, rfl⟩
        have E0 : ∀ (γ : Nat → Value) (L : Nat → Bool) (a : Act) (w : World), RV.Held D WA R (fun γ L w => AG 1 16 17 18 wr w0.heap.size (u10) M.length (flat M) [.int .i64 px, .int .i64 py] γ L w) Z γ L a w → a.tmps[0]? = some (.int .i64 (N : Int)) := fun γ L a w hH => (hH.rest 0 (by rw [← hD]; exact RV.dst_free (by kernel_rfl))).trans (by rw [← hZ]; rfl)
        have E1 : ∀ (γ : Nat → Value) (L : Nat → Bool) (a : Act) (w : World), RV.Held D WA R (fun γ L w => AG 1 16 17 18 wr w0.heap.size (u10) M.length (flat M) [.int .i64 px, .int .i64 py] γ L w) Z γ L a w → a.tmps[1]? = some (.slice (some ⟨gb, ob, none⟩) L1.length c1) := fun γ L a w hH => (hH.rest 1 (by rw [← hD]; exact RV.dst_free (by kernel_rfl))).trans (by rw [← hZ]; rfl)
        have E11 : ∀ (γ : Nat → Value) (L : Nat → Bool) (a : Act) (w : World), RV.Held D WA R (fun γ L w => AG 1 16 17 18 wr w0.heap.size (u10) M.length (flat M) [.int .i64 px, .int .i64 py] γ L w) Z γ L a w → a.tmps[11]? = some (.int .i64 (k : Int)) := fun γ L a w hH => (hH.rest 11 (by rw [← hD]; exact RV.dst_free (by kernel_rfl))).trans (by rw [← hZ]; rfl)
        have K : ∀ j v w w', R j v w → R j v w' := by rw [hR]; intro j v w w' h; exact h
        have A_17_0 : WA 17 0 := by rw [← hWA]; exact ⟨_, rfl, ⟨0, .data⟩, by simp, rfl, rfl⟩
        have A_3_1 : WA 3 1 := by rw [← hWA]; exact ⟨_, rfl, ⟨1, .data⟩, by simp, rfl, rfl⟩
        have A_3_2 : WA 3 2 := by rw [← hWA]; exact ⟨_, rfl, ⟨2, .data⟩, by simp, rfl, rfl⟩
        have A_4_3 : WA 4 3 := by rw [← hWA]; exact ⟨_, rfl, ⟨3, .data⟩, by simp, rfl, rfl⟩
        have A_5_4 : WA 5 4 := by rw [← hWA]; exact ⟨_, rfl, ⟨4, .data⟩, by simp, rfl, rfl⟩
        have A_7_5 : WA 7 5 := by rw [← hWA]; exact ⟨_, rfl, ⟨5, .data⟩, by simp, rfl, rfl⟩
        have A_7_6 : WA 7 6 := by rw [← hWA]; exact ⟨_, rfl, ⟨6, .data⟩, by simp, rfl, rfl⟩
        have A_15_7 : WA 15 7 := by rw [← hWA]; exact ⟨_, rfl, ⟨7, .data⟩, by simp, rfl, rfl⟩
        have A_10_8 : WA 10 8 := by rw [← hWA]; exact ⟨_, rfl, ⟨8, .data⟩, by simp, rfl, rfl⟩
        have A_10_9 : WA 10 9 := by rw [← hWA]; exact ⟨_, rfl, ⟨9, .data⟩, by simp, rfl, rfl⟩
        have A_11_10 : WA 11 10 := by rw [← hWA]; exact ⟨_, rfl, ⟨10, .data⟩, by simp, rfl, rfl⟩
        have A_12_11 : WA 12 11 := by rw [← hWA]; exact ⟨_, rfl, ⟨11, .data⟩, by simp, rfl, rfl⟩
        have A_14_12 : WA 14 12 := by rw [← hWA]; exact ⟨_, rfl, ⟨12, .data⟩, by simp, rfl, rfl⟩
        have A_14_13 : WA 14 13 := by rw [← hWA]; exact ⟨_, rfl, ⟨13, .data⟩, by simp, rfl, rfl⟩
        have A_15_14 : WA 15 14 := by rw [← hWA]; exact ⟨_, rfl, ⟨14, .data⟩, by simp, rfl, rfl⟩
        have A_16_15 : WA 16 15 := by rw [← hWA]; exact ⟨_, rfl, ⟨15, .data⟩, by simp, rfl, rfl⟩
        have A_17_16 : WA 17 16 := by rw [← hWA]; exact ⟨_, rfl, ⟨16, .data⟩, by simp, rfl, rfl⟩
        have A_18_17 : WA 18 17 := by rw [← hWA]; exact ⟨_, rfl, ⟨17, .data⟩, by simp, rfl, rfl⟩
        clear hD hWA hZ hR
        refine RV.AllDo.cons 0 (RV.does_pure (fun γ v L w hl h => AG.other h _ (by decide) (by decide) (by decide)) (fun γ L a w hH hl hA => by have e0 := (hH.early 10 (fun j hj => by rw [X10 j hj]; exact RV.not_yet hH LA_18_0 hl)).trans Y10; exact ⟨u10, by simp [execOp, go_sem, e0], (r0 _ _).mpr rfl⟩)) ?_
        refine RV.AllDo.cons 1 (RV.does_pure (fun γ v L w hl h => AG.other h _ (by decide) (by decide) (by decide)) (fun γ L a w hH hl hA => by have e0 := E1 γ L a w hH; exact ⟨.slice (some ⟨gb, ob, none⟩) L1.length c1, by simp [execOp, go_sem, e0], (r1 _ _).mpr rfl⟩)) ?_
        refine RV.AllDo.cons 2 (RV.does_pure (fun γ v L w hl h => AG.other h _ (by decide) (by decide) (by decide)) (fun γ L a w hH hl hA => by have e0 := E11 γ L a w hH; exact ⟨.int .i64 (k : Int), by simp [execOp, go_sem, e0], (r2 _ _).mpr rfl⟩)) ?_
        refine RV.AllDo.cons 3 (RV.does_pure (fun γ v L w hl h => AG.other h _ (by decide) (by decide) (by decide)) (fun γ L a w hH hl hA => by have l0 : L 1 = true := hA ⟨1, .data⟩ (by simp) rfl; have e0 := hH.slot 1 31 d1 l0; have g0 := hH.holds 1 l0; rw [r1] at g0; rw [g0] at e0; have l1 : L 2 = true := hA ⟨2, .data⟩ (by simp) rfl; have e1 := hH.slot 2 32 d2 l1; have g1 := hH.holds 2 l1; rw [r2] at g1; rw [g1] at e1; exact ⟨.pointer (some ⟨gb, ob + k * 2, none⟩), by simp [execOp, go_sem, e0, e1, hltl], (r3 _ _).mpr rfl⟩)) ?_
        refine RV.AllDo.cons 4 (RV.does_pure (fun γ v L w hl h => AG.other h _ (by decide) (by decide) (by decide)) (fun γ L a w hH hl hA => by have l0 : L 3 = true := hA ⟨3, .data⟩ (by simp) rfl; have e0 := hH.slot 3 33 d3 l0; have g0 := hH.holds 3 l0; rw [r3] at g0; rw [g0] at e0; exact ⟨.pointer (some ⟨gb, ob + k * 2, none⟩), by simp [execOp, go_sem, e0], (r4 _ _).mpr rfl⟩)) ?_
        refine RV.AllDo.cons 5 (RV.does_pure (fun γ v L w hl h => AG.other h _ (by decide) (by decide) (by decide)) (fun γ L a w hH hl hA => by have l0 : L 4 = true := hA ⟨4, .data⟩ (by simp) rfl; have e0 := hH.slot 4 34 d4 l0; have g0 := hH.holds 4 l0; rw [r4] at g0; rw [g0] at e0; have z09 := c_after (AG.early hH.glob (RV.not_yet hH A_17_16 (RV.not_yet hH A_16_15 (RV.not_yet hH A_15_7 (RV.not_yet hH A_7_5 hl))))).1 x0; exact ⟨.int .i64 x, by simp [execOp, go_sem, e0, z09], (r5 _ _).mpr rfl⟩)) ?_
        refine RV.AllDo.cons 6 (RV.does_pure (fun γ v L w hl h => AG.other h _ (by decide) (by decide) (by decide)) (fun γ L a w hH hl hA => by have e0 := E0 γ L a w hH; exact ⟨.int .i64 (N : Int), by simp [execOp, go_sem, e0], (r6 _ _).mpr rfl⟩)) ?_
        refine RV.AllDo.cons 7 (RV.does_call (fun γ L a w hH hl hA => by have l0 : L 5 = true := hA ⟨5, .data⟩ (by simp) rfl; have e0 := hH.slot 5 35 d5 l0; have g0 := hH.holds 5 l0; rw [r5] at g0; rw [g0] at e0; have l1 : L 6 = true := hA ⟨6, .data⟩ (by simp) rfl; have e1 := hH.slot 6 36 d6 l1; have g1 := hH.holds 6 l1; rw [r6] at g1; rw [g1] at e1; have q9 : L 17 = false := (RV.not_yet hH A_17_16 (RV.not_yet hH A_16_15 (RV.not_yet hH A_15_7 hl))); exact ⟨15, #[.int .i64 x, .int .i64 (N : Int)], by simp [go_sem, e0, e1], Calls.mono (HPX.out w) (by rintro e w2 ⟨rfl, hb⟩; exact ⟨_, rfl, (r7 _ _).mpr rfl, fun j v _ h => K j v _ _ h, AG.call hH.glob q9 hb _ (by decide) (by decide) (by decide)⟩)⟩)) ?_
        refine RV.AllDo.cons 8 (RV.does_pure (fun γ v L w hl h => AG.other h _ (by decide) (by decide) (by decide)) (fun γ L a w hH hl hA => by have e0 := E1 γ L a w hH; exact ⟨.slice (some ⟨gb, ob, none⟩) L1.length c1, by simp [execOp, go_sem, e0], (r8 _ _).mpr rfl⟩)) ?_
        refine RV.AllDo.cons 9 (RV.does_pure (fun γ v L w hl h => AG.other h _ (by decide) (by decide) (by decide)) (fun γ L a w hH hl hA => by have e0 := E11 γ L a w hH; exact ⟨.int .i64 (k : Int), by simp [execOp, go_sem, e0], (r9 _ _).mpr rfl⟩)) ?_
        refine RV.AllDo.cons 10 (RV.does_pure (fun γ v L w hl h => AG.other h _ (by decide) (by decide) (by decide)) (fun γ L a w hH hl hA => by have l0 : L 8 = true := hA ⟨8, .data⟩ (by simp) rfl; have e0 := hH.slot 8 38 d8 l0; have g0 := hH.holds 8 l0; rw [r8] at g0; rw [g0] at e0; have l1 : L 9 = true := hA ⟨9, .data⟩ (by simp) rfl; have e1 := hH.slot 9 39 d9 l1; have g1 := hH.holds 9 l1; rw [r9] at g1; rw [g1] at e1; exact ⟨.pointer (some ⟨gb, ob + k * 2, none⟩), by simp [execOp, go_sem, e0, e1, hltl], (r10 _ _).mpr rfl⟩)) ?_
        refine RV.AllDo.cons 11 (RV.does_pure (fun γ v L w hl h => AG.other h _ (by decide) (by decide) (by decide)) (fun γ L a w hH hl hA => by have l0 : L 10 = true := hA ⟨10, .data⟩ (by simp) rfl; have e0 := hH.slot 10 40 d10 l0; have g0 := hH.holds 10 l0; rw [r10] at g0; rw [g0] at e0; exact ⟨.pointer (some ⟨gb, ob + k * 2 + 1, none⟩), by simp [execOp, go_sem, e0], (r11 _ _).mpr rfl⟩)) ?_
        refine RV.AllDo.cons 12 (RV.does_pure (fun γ v L w hl h => AG.other h _ (by decide) (by decide) (by decide)) (fun γ L a w hH hl hA => by have l0 : L 11 = true := hA ⟨11, .data⟩ (by simp) rfl; have e0 := hH.slot 11 41 d11 l0; have g0 := hH.holds 11 l0; rw [r11] at g0; rw [g0] at e0; have z09 := c_after (AG.early hH.glob (RV.not_yet hH A_17_16 (RV.not_yet hH A_16_15 (RV.not_yet hH A_15_14 (RV.not_yet hH A_14_12 hl))))).1 y0; exact ⟨.int .i64 y, by simp [execOp, go_sem, e0, z09], (r12 _ _).mpr rfl⟩)) ?_
        refine RV.AllDo.cons 13 (RV.does_pure (fun γ v L w hl h => AG.other h _ (by decide) (by decide) (by decide)) (fun γ L a w hH hl hA => by have e0 := E0 γ L a w hH; exact ⟨.int .i64 (N : Int), by simp [execOp, go_sem, e0], (r13 _ _).mpr rfl⟩)) ?_
        refine RV.AllDo.cons 14 (RV.does_call (fun γ L a w hH hl hA => by have l0 : L 12 = true := hA ⟨12, .data⟩ (by simp) rfl; have e0 := hH.slot 12 42 d12 l0; have g0 := hH.holds 12 l0; rw [r12] at g0; rw [g0] at e0; have l1 : L 13 = true := hA ⟨13, .data⟩ (by simp) rfl; have e1 := hH.slot 13 43 d13 l1; have g1 := hH.holds 13 l1; rw [r13] at g1; rw [g1] at e1; have q9 : L 17 = false := (RV.not_yet hH A_17_16 (RV.not_yet hH A_16_15 (RV.not_yet hH A_15_14 hl))); exact ⟨15, #[.int .i64 y, .int .i64 (N : Int)], by simp [go_sem, e0, e1], Calls.mono (HPY.out w) (by rintro e w2 ⟨rfl, hb⟩; exact ⟨_, rfl, (r14 _ _).mpr rfl, fun j v _ h => K j v _ _ h, AG.call hH.glob q9 hb _ (by decide) (by decide) (by decide)⟩)⟩)) ?_
        refine RV.AllDo.cons 15 (RV.does_pure (fun γ v L w hl h => AG.other h _ (by decide) (by decide) (by decide)) (fun γ L a w hH hl hA => by have l0 : L 7 = true := hA ⟨7, .data⟩ (by simp) rfl; have e0 := hH.slot 7 37 d7 l0; have g0 := hH.holds 7 l0; rw [r7] at g0; rw [g0] at e0; have l1 : L 14 = true := hA ⟨14, .data⟩ (by simp) rfl; have e1 := hH.slot 14 44 d14 l1; have g1 := hH.holds 14 l1; rw [r14] at g1; rw [g1] at e1; exact ⟨.agg #[.int .i64 px, .int .i64 py], by simp [execOp, go_sem, e0, e1], (r15 _ _).mpr rfl⟩)) ?_
        refine RV.AllDo.cons 16 (RV.does_step (fun γ L a w hH hl hA => by have l0 : L 15 = true := hA ⟨15, .data⟩ (by simp) rfl; have e0 := hH.slot 15 45 d15 l0; have g0 := hH.holds 15 l0; rw [r15] at g0; rw [g0] at e0; exact ⟨.slice (some ⟨w.heap.size, 0, none⟩) 1 1, w.alloc (.cells #[.int .i64 px, .int .i64 py] 32), by simp [execOp, go_sem, e0], (r16 _ _).mpr trivial, fun j v _ h => K j v _ _ h, AG.lay hH.glob (RV.not_yet hH A_17_16 hl) (by decide) (by decide)⟩)) ?_
        refine RV.AllDo.cons 17 (RV.does_step (fun γ L a w hH hl hA => by have l0 : L 0 = true := hA ⟨0, .data⟩ (by simp) rfl; have e0 := hH.slot 0 30 d0 l0; have g0 := hH.holds 0 l0; rw [r0] at g0; rw [g0] at e0; have l1 : L 16 = true := hA ⟨16, .data⟩ (by simp) rfl; have e1 := hH.slot 16 46 d16 l1; have g1 := hH.holds 16 l1; rw [r16] at g1; obtain ⟨y2, y3⟩ := AG.early hH.glob hl; obtain ⟨g9, t1, t2⟩ := y3 l1; rw [t1] at e1; have q9 : L 18 = false := RV.not_yet hH A_18_17 hl; obtain ⟨v9, w9, t3, t4, t5, t6⟩ := exec_app (P := Try.prog) (w := w) (a := a) (.tmp 30) (.tmp 46) 22 22 w0.heap.size 32 i0 _ 2 16 Try.underlying22 HI.out.1 HI.out.2.1 HI.out.2.2.1 HI.out.2.2.2 rfl (by decide) (u10) M.length (flat M) (by simp [go_sem, e0]) (own_below HO.out.row y2) ⟨g9, 0, none⟩ 1 1 [.int .i64 px, .int .i64 py] (by simp [go_sem, e1]) rfl (news_cells t2) (by intro u hu; simp at hu; rcases hu with rfl | rfl <;> rfl) (by unfold maxLen; omega) (by omega) (Nat.le_trans HO.out.below.size y2.size); exact ⟨v9, w9, t3 _ rfl rfl, (r17 _ _).mpr trivial, fun j v _ h => K j v _ _ h, AG.app q9 (by decide) t4 (gtrans (below_grown y2 _) t5) (NewOr.below y2 t6)⟩)) ?_
        refine RV.AllDo.cons 18 (RV.does_step (fun γ L a w hH hl hA => by have l0 : L 17 = true := hA ⟨17, .data⟩ (by simp) rfl; have e0 := hH.slot 17 47 d17 l0; have g0 := hH.holds 17 l0; rw [r17] at g0; exact ⟨γ 17, w, by simp [execOp, go_sem, e0], (r18 _ _).mpr trivial, fun j v _ h => h, AG.set hH.glob (by decide) (by decide)⟩)) ?_
        exact RV.AllDo.nil
      · intro γ a5 w5 L9 hL hLo hH
        have ha := RV.held_act hH hL (by kernel_rfl) (by kernel_rfl)
        obtain ⟨y3, y1, y2, y4⟩ := AG.done hH.glob (hL 17 (by decide)) (hL 18 (by decide))
        rw [ha]
        clear ha hH hL hLo
        simp only [RV.putAll, Act.put, List.setIfInBounds_toArray, List.set_cons_zero, List.set_cons_succ, Nat.zero_add, Nat.reduceAdd]
        rw [y3]
        have HO2 : Hid (LOwn w0 w5 (γ 17) (M ++ [(px, py)])) := HO.out.app (N := [(px, py)]) y1 y2
        clear y1 y2 y3 y4 HO
        generalize γ 17 = u9 at *
        go_wp2_with (fail)
        go_roundg (m0 - (k + 1))
        case measure => have := HM.out; omega
        case rel => exact ⟨k + 1, by go_num, by omega, rfl, by rw [HMS.out]; exact HO2.out⟩
    · have HPL : Hid ((pk N L1 k).length = k) := pk_length (by omega)
      go_upto_region 5 with fail
      go_cut [27] from 20 to 27 (fun s27 wx => s27 = .bool false ∧ wx = wr)
      case first =>
        by_cases hkl : k < L1.length
        · have h100 : ¬ k < 100 := by have := HM3.out; omega
          go_wp2_with (fail)
          go_meet
          case rel => exact ⟨congrArg Value.bool (decide_eq_false (by omega)), rfl⟩
        · go_wp2_with (fail)
          go_meet
          case rel => exact ⟨rfl, rfl⟩
      case rest =>
        obtain ⟨rfl, hwc⟩ := hcut
        obtain rfl : wr = wc := hwc.symm
        clear hwc HC HLB hm1
        generalize pk N L1 k = P at *
        have la := pickY_lo a2 (n := (N : Int)) (by omega)
        have ha := pickY_hi a2 (n := (N : Int)) (by omega)
        have lb := pickY_lo a3 (n := (N : Int)) (by omega)
        have hb := pickY_hi a3 (n := (N : Int)) (by omega)
        have HPX : Hid _ := HPK.out a2 N ba2 (by omega) (by omega)
        have HPY : Hid _ := HPK.out a3 N ba3 (by omega) (by omega)
        generalize pickY a2 N = pa at *
        generalize pickY a3 N = pb at *
        obtain ⟨pa, rfl⟩ : ∃ x : Nat, pa = (x : Int) := ⟨pa.toNat, by omega⟩
        obtain ⟨pb, rfl⟩ : ∃ x : Nat, pb = (x : Int) := ⟨pb.toNat, by omega⟩
        have ha : pa < N := by omega
        have hb : pb < N := by omega
        clear la lb HPK
        go_wp2_with (fail)
        refine Calls.mono (HPX.out _) ?_
        rintro e W3 ⟨rfl, b3⟩
        have HO3 : Hid _ := HO.out.step b3
        clear b3 HPX HO
        go_wp2_with (fail)
        refine Calls.mono (HPY.out _) ?_
        rintro e W4 ⟨rfl, b4⟩
        have HO4 : Hid _ := HO3.out.step b4
        clear b4 HPY HO3
        have G1 := groups_at (N : Int) u10 (.slice none 0 0) P [] W4 HO4.out.rd (RdB.nil _) rfl
        rw [cnt_nat (by omega)] at G1
        have HG1 : Hid _ := G1
        clear G1
        go_wp2_with (fail)
        refine Calls.mono HG1.out ?_
        clear HG1
        rintro e W5 ⟨bg, rfl, hbg, rg, b5⟩
        have HGC : Hid (∀ i, i < N → W5.cell? ⟨bg, i, none⟩ = some (.int .i64 (grpF N [] P i : Int))) := fun i hi => by
          obtain ⟨_, _, e, _, _, h⟩ := rg.grp
          cases e
          obtain ⟨g, off, e, hc⟩ := h i hi
          cases e
          rw [Nat.zero_add] at hc
          exact hc
        have HO5 : Hid _ := HO4.out.step b5
        have hpl := HPL.out
        have HNE : Hid (some bg ≠ u10.ownBlock) := fun e => by have := (HO4.out.row.lt bg e.symm).2; omega
        clear b5 rg HO4 hbg
        go_wp2_with (at_builtin; refine wpList_append_own_at _ rfl _ _ 22 rfl w0.heap.size 32 i0 _ 2 16 Try.underlying22 HI.out.1 HI.out.2.1 HI.out.2.2.1 HI.out.2.2.2 rfl (by decide) _ _ _ rfl (HO5.out.row.alloc _) ⟨W5.heap.size, 0, none⟩ 1 1 [.int .i64 (pa : Int), .int .i64 (pb : Int)] rfl rfl (news_cells (heap_alloc_new W5 _)) (by intro u hu; simp at hu; rcases hu with rfl | rfl <;> rfl) (by unfold maxLen; omega) (by omega) (by have := HO5.out.below.size; simp; omega) ?_; intro u9 W6 r8 g8 _ s8)
        have HO6 : Hid (LOwn w0 W6 u9 (P ++ [((pa : Int), (pb : Int))])) := (HO5.out.step (n_after W5 _)).app (N := [((pa : Int), (pb : Int))]) r8 g8
        have HGC6 : Hid (∀ i, i < N → W6.cell? ⟨bg, i, none⟩ = some (.int .i64 (grpF N [] P i : Int))) := fun i hi => g8.cell (c_after (n_after W5 _) (HGC.out i hi)) HNE.out
        have G2 := groups_at (N : Int) u9 (.slice none 0 0) (P ++ [((pa : Int), (pb : Int))]) [] W6 HO6.out.rd (RdB.nil _) rfl
        rw [cnt_nat (by omega)] at G2
        have HG2 : Hid _ := G2
        clear G2 r8 g8 s8 HO5 HGC HNE
        go_wp2_with (fail)
        refine Calls.mono HG2.out ?_
        clear HG2
        rintro e W7 ⟨bh, rfl, _, rh, b7⟩
        have HHC : Hid (∀ i, i < N → W7.cell? ⟨bh, i, none⟩ = some (.int .i64 (grpF N [] (P ++ [((pa : Int), (pb : Int))]) i : Int))) := fun i hi => by
          obtain ⟨_, _, e, _, _, h⟩ := rh.grp
          cases e
          obtain ⟨g, off, e, hc⟩ := h i hi
          cases e
          rw [Nat.zero_add] at hc
          exact hc
        have HGC7 : Hid (∀ i, i < N → W7.cell? ⟨bg, i, none⟩ = some (.int .i64 (grpF N [] P i : Int))) := fun i hi => c_after b7 (HGC6.out i hi)
        have HB7 : Hid _ := b_step HO6.out.below b7
        have HJ : Hid (∀ i, grpF N [] (P ++ [((pa : Int), (pb : Int))]) i = if grpF N [] P i = grpF N [] P pa ∨ grpF N [] P i = grpF N [] P pb then min (grpF N [] P pa) (grpF N [] P pb) else grpF N [] P i) := fun i => by
          rw [grpF_snoc, step_yes _ (okI_nil ha) (okI_nil hb), jnF_is]
        clear rh b7 HO6 HGC6 HPL
        generalize grpF N [] (P ++ [((pa : Int), (pb : Int))]) = H at *
        generalize grpF N [] P = G at *
        go_wp2_with (fail)
        go_loopg [14, 15] N (fun gn s14 s15 wr => ∃ i : Nat, s14 = .int .i64 (i : Int) ∧ i ≤ N ∧ gn = N - i ∧ Hid (Below W7.heap.size W7 wr))
        case atStart => exact ⟨0, rfl, Nat.zero_le _, rfl, Below.refl _ _⟩
        case round =>
          obtain ⟨i, rfl, hi, hgn, HB⟩ := hrel
          have HN : Hid _ := hgn
          clear hgn
          by_cases hit : i < N
          · have ci := c_after HB.out (HGC7.out i hit)
            have ca := c_after HB.out (HGC7.out pa ha)
            have cb := c_after HB.out (HGC7.out pb hb)
            have ch := c_after HB.out (HHC.out i hit)
            have HJI : Hid _ := HJ.out i
            have h5 : G i = G pa ∨ (G i ≠ G pa ∧ G i = G pb) ∨ (G i ≠ G pa ∧ G i ≠ G pb) := by omega
            generalize G i = gi at *
            generalize G pa = ga at *
            generalize G pb = gb at *
            generalize H i = hh at *
            clear HHC HGC7 HJ
            rcases h5 with rfl | ⟨h5, rfl⟩ | ⟨h5, h6⟩
            · rcases Nat.lt_trichotomy gi gb with h7 | rfl | h7
              · have e : hh = gi := by rw [HJI.out]; rw [if_pos (Or.inl rfl)]; omega
                subst e
                have h8 : ¬ gb < hh := by omega
                clear HJI
                go_wp2_with (fail)
                go_region
                go_wp2_with (fail)
                go_region
                go_wp2_with (fail)
                go_roundg (N - (i + 1))
                case measure => have := HN.out; omega
                case rel => exact ⟨i + 1, by go_num, by omega, rfl, HB.out.drew.drew⟩
              · have e : hh = gi := by rw [HJI.out]; rw [if_pos (Or.inl rfl)]; omega
                subst e
                clear HJI
                go_wp2_with (fail)
                go_region
                go_wp2_with (fail)
                go_region
                go_wp2_with (fail)
                go_roundg (N - (i + 1))
                case measure => have := HN.out; omega
                case rel => exact ⟨i + 1, by go_num, by omega, rfl, HB.out.drew.drew⟩
              · have e : hh = gb := by rw [HJI.out]; rw [if_pos (Or.inl rfl)]; omega
                subst e
                have h8 : ¬ gi < hh := by omega
                clear HJI
                go_wp2_with (fail)
                go_region
                go_wp2_with (fail)
                go_region
                go_wp2_with (fail)
                go_roundg (N - (i + 1))
                case measure => have := HN.out; omega
                case rel => exact ⟨i + 1, by go_num, by omega, rfl, HB.out.drew.drew⟩
            · have e1 : ((gi : Int) == (ga : Int)) = false := beq_eq_false_iff_ne.2 (by omega)
              rcases Nat.lt_or_gt_of_ne h5 with h7 | h7
              · have e : hh = gi := by rw [HJI.out]; rw [if_pos (Or.inr rfl)]; omega
                subst e
                have h8 : ¬ ga < hh := by omega
                clear HJI
                go_wp2_with (fail)
                go_region
                go_wp2_with (fail)
                go_region
                go_wp2_with (fail)
                go_roundg (N - (i + 1))
                case measure => have := HN.out; omega
                case rel => exact ⟨i + 1, by go_num, by omega, rfl, HB.out.drew.drew⟩
              · have e : hh = ga := by rw [HJI.out]; rw [if_pos (Or.inr rfl)]; omega
                subst e
                have h8 : ¬ gi < hh := by omega
                clear HJI
                go_wp2_with (fail)
                go_region
                go_wp2_with (fail)
                go_region
                go_wp2_with (fail)
                go_roundg (N - (i + 1))
                case measure => have := HN.out; omega
                case rel => exact ⟨i + 1, by go_num, by omega, rfl, HB.out.drew.drew⟩
            · have e : hh = gi := by rw [HJI.out]; rw [if_neg (by omega)]
              subst e
              have e1 : ((hh : Int) == (ga : Int)) = false := beq_eq_false_iff_ne.2 (by omega)
              have e2 : ((hh : Int) == (gb : Int)) = false := beq_eq_false_iff_ne.2 (by omega)
              clear HJI
              go_wp2_with (fail)
              go_region
              go_wp2_with (fail)
              go_roundg (N - (i + 1))
              case measure => have := HN.out; omega
              case rel => exact ⟨i + 1, by go_num, by omega, rfl, HB.out.drew⟩
          · have e : i = N := by omega
            subst e
            go_wp2_with (fail)
            go_ret
            exact ⟨rfl, b_step HB7.out HB.out⟩

/-! ### The row's step, after the guide's template -/
set_option maxRecDepth 100000 in
theorem lifted (os : Os) (started : os.Started) (H : Type) (enc : TypeId × Value → H) :
    ReturnsInHanded {} Try.checked os 5 .any (Rows.islandGrowsSpec.pre6 enc Try.prog Try.f5 Rows.islandGrowsRow.domain false) (Rows.islandGrowsSpec.post enc Try.prog Try.f5 false true false false) := by
  refine returnsInHanded_of_change (C := Try.checked) own started (by kernel_rfl) Try.func5
    (ChangeSpec.witness6 (enc := enc) (C := Try.checked) false ⟨#[], #[.int .i64 0, .slice none 0 0, .int .i64 0, .int .i64 0], []⟩ 8 (by kernel_rfl) (by kernel_rfl) (by kernel_rfl) (by kernel_rfl)) ?_
  intro W base args ds gs before hval0 hW hcnd _
  have hval : ∀ (j : Nat) t v, Try.f5.params[j]? = some t → args[j]? = some v → Value.okWide Try.prog W .any base t v := hval0
  have hW' := hW
  obtain ⟨p, q, hA0, hV, rfl, hfz, hnd⟩ := hW
  have hA : DataW.TrodAll enc Try.prog W 0 (fun _ => true) true Try.f5.params.toList args.toList ds p := hA0
  rw [Try.params5] at hA hval
  obtain ⟨v0, vs0, d0, ds0, p0, q0, hargs, rfl, rfl, h0, r0⟩ := trodAll_cons hA
  obtain ⟨v1, vs1, d1, ds1, p1, q1, rfl, rfl, rfl, h1, r1⟩ := trodAll_cons r0
  obtain ⟨v2, vs2, d2, ds2, p2, q2, rfl, rfl, rfl, h2, r2⟩ := trodAll_cons r1
  obtain ⟨v3, vs3, d3, ds3, p3, q3, rfl, rfl, rfl, h3, r3⟩ := trodAll_cons r2
  obtain ⟨rfl, rfl, rfl⟩ := trodAll_nil r3
  obtain rfl : args = #[v0, v1, v2, v3] := by cases args; simp_all
  obtain ⟨rfl, rfl⟩ := trodVars_none hV
  obtain ⟨a0, rfl, rfl, rfl, w0⟩ := open_int Try.underlying3 (hval 0 3 v0 rfl rfl) h0
  have b0 := bounds_i64 w0
  have k1 := h1
  have lt1 : ∀ x ∈ p1, x.block < W.heap.size := by obtain ⟨m, hm⟩ := k1; exact DataW.trod_lt m _ _ _ hm
  obtain ⟨o1, L1, c1, rfl, hL1, hb1⟩ := open_links17 (hval 1 22 v1 rfl rfl) h1
  obtain ⟨a2, rfl, rfl, rfl, w2⟩ := open_int Try.underlying3 (hval 2 3 v2 rfl rfl) h2
  have b2 := bounds_i64 w2
  obtain ⟨a3, rfl, rfl, rfl, w3⟩ := open_int Try.underlying3 (hval 3 3 v3 rfl rfl) h3
  have b3 := bounds_i64 w3
  clear hA0 hval0
  refine (walk a0 o1 L1 c1 a2 a3 W (by omega) hL1 hb1 (by omega) (by omega)).mono fun e W' ⟨he, bel⟩ => ?_
  subst he
  exact ⟨_, rfl, _, _, _, [], _, [], hW', trodAll_mk1 (shut_bool Try.underlying4 _), (trodAll_cons_mk (shut_int Try.underlying3 w0) (trodAll_cons_mk (Below.trod laidOut (by kernel_rfl) (of_decide_eq_true (by kernel_rfl)) k1 bel lt1) (trodAll_cons_mk (shut_int Try.underlying3 w2) (trodAll_cons_mk (shut_int Try.underlying3 w3) trodAll_mk0)))), rfl, bel.frame _, fun h => by cases h⟩

theorem over : Rows.islandGrowsRow.holds Try.pinned (OpenSpec.ofChange Rows.islandGrowsSpec) :=
  OpenClaim.holds_of_wide 5 Try.f5 rfl rfl rfl rfl rfl rfl rfl ⟨rfl, rfl, rfl, rfl, rfl⟩ rfl rfl rfl rfl rfl (by kernel_rfl) Try.func5 (by kernel_rfl)
    (of_decide_eq_true (by kernel_rfl)) (by unfold Func.isWrapper; first | (rw [if_pos (by decide +kernel)]; kernel_rfl) | (rw [if_neg (by decide +kernel)]; exact ⟨rfl, rfl⟩))
    (fun os started H enc _ => lifted os started H enc)

end islandGrows

theorem islandGrows_holds : Rows.IslandGrowsSaid := islandGrows.over
#print axioms islandGrows_holds
end Go.Proofs.Ytdbiikllcplmgaa
