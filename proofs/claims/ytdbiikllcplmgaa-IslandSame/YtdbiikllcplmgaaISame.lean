/- Groups hang on which links there are alone, a group is told by its least member, a wall is alone, and ends of a link that joins are together: true of all counts, links and walls. -/
import Derived.Test.YtdbiikllcplmgaaIsH
import Derived.ProofKit
namespace Go.Proofs.Ytdbiikllcplmgaa
namespace islandSame
open Go.ChangeShapes Go.WideShapes Go.ChangeAt Go.RowKit Go.Shelf
set_option linter.unusedVariables false

theorem own : ownKnob Try.prog.godebug = none := by kernel_rfl
theorem laidOut : laidOutB Try.prog = true := by kernel_rfl

set_option maxHeartbeats 4000000 in
set_option maxRecDepth 100000 in
theorem walk (a0 : Int) (o1 : Option Addr) (L1 : List (Int × Int)) (c1 : Nat) (o2 : Option Addr) (L2 : List Bool) (c2 : Nat) (w0 : World) (ba0 : -9223372036854775808 ≤ a0 ∧ a0 ≤ 9223372036854775807) (hL1 : RdL w0 (.slice o1 L1.length c1) L1) (hb1 : ∀ l ∈ L1, (-9223372036854775808 ≤ l.1 ∧ l.1 ≤ 9223372036854775807) ∧ (-9223372036854775808 ≤ l.2 ∧ l.2 ≤ 9223372036854775807)) (hL2 : RdB w0 (.slice o2 L2.length c2) L2) :
    Calls Try.prog 4 #[.int .i64 a0, .slice o1 L1.length c1, .slice o2 L2.length c2] w0 fun e W => e = .returned (.bool true) ∧ Below w0.heap.size w0 W := by
  obtain ⟨i0, hii, hiz, hisz, hib⟩ := info_parts link_info
  have HI : Hid _ := And.intro hii (And.intro hiz (And.intro hisz hib))
  clear hii hiz hisz hib
  have HLB : Hid _ := hb1
  have HWL : Hid _ := hL2
  obtain ⟨_, _, e1, hc1, hcm1, hcell⟩ := hL1.form
  cases e1
  have HC : Hid _ := hcell
  obtain ⟨_, _, e2, hc2, hcm2, hwcell⟩ := hL2.form
  cases e2
  have HWC : Hid _ := hwcell
  clear hL1 hb1 hcell hL2 hwcell
  have HA : Hid _ := awake_any w0
  have HPK : Hid (∀ c n : Int, (-9223372036854775808 ≤ c ∧ c ≤ 9223372036854775807) → 0 < n → n ≤ 50 → ∀ w, Calls Try.prog 15 #[.int .i64 c, .int .i64 n] w fun e W => e = .returned (.int .i64 (pickY c n)) ∧ Below w.heap.size w W) := fun c n hc hn hn2 w =>
    Calls.mono (npick_any c n w hc hn (by omega)) (by rintro e W ⟨rfl, rfl⟩; exact ⟨rfl, Below.refl _ _⟩)
  have hpa := pickY_lo a0 (n := 50) (by decide)
  have hpb := pickY_hi a0 (n := 50) (by decide)
  obtain ⟨N, hN⟩ : ∃ N : Nat, 1 + pickY a0 50 = (N : Int) := ⟨(1 + pickY a0 50).toNat, by omega⟩
  have hn0 : 0 < N := by omega
  have hn1 : N ≤ 50 := by omega
  have HNE : Hid _ := hN
  clear hN
  go_enter Try.func4, Try.ntmps4
  go_wp2_with (fail)
  refine Calls.mono HA.out ?_
  clear HA
  rintro e W1 ⟨rfl, b1⟩
  have B1 : Hid _ := b1
  clear b1
  go_wp2_with (fail)
  refine Calls.mono (HPK.out a0 50 ba0 (by decide) (by decide) W1) ?_
  rintro e W2 ⟨rfl, b2⟩
  have B2 : Hid _ := b_step B1.out b2
  clear b2 B1
  obtain ⟨m0, hm0⟩ : ∃ m0, m0 = min L1.length 100 := ⟨_, rfl⟩
  have hm1 : m0 ≤ L1.length := by omega
  have hm2 : m0 ≤ 100 := by omega
  have hm3 : m0 < L1.length → 100 ≤ m0 := by omega
  have HM3 : Hid _ := hm3
  clear hm0 hm3
  have HST : Hid (LOwn w0 W2 (.slice none 0 0) (pk N L1 0)) := ⟨by rw [pk_zero]; exact World.ownsRow_nil _ _ _ _, B2.out⟩
  go_wp2_with (fail)
  rw [HNE.out]
  clear hpa hpb HNE
  go_loopg [8, 10] m0 (fun gm u j wr => ∃ k : Nat, j = .int .i64 (k : Int) ∧ k ≤ m0 ∧ gm = m0 - k ∧ Hid (LOwn w0 wr u (pk N L1 k)))
  case atStart => exact ⟨0, rfl, Nat.zero_le _, rfl, HST⟩
  case round =>
    clear HST B2
    obtain ⟨k, rfl, hk, hgm, HO⟩ := hrel
    have HM : Hid _ := hgm
    clear hgm
    by_cases hlt : k < m0
    · have hltl : k < L1.length := by omega
      have hlt100 : k < 100 := by omega
      obtain ⟨g1, off1, x, y, rfl, hz, x0, y0⟩ := HC.out k hltl
      have hbd := HLB.out _ (List.mem_of_getElem? hz)
      have x0 := c_after HO.out.below x0
      have y0 := c_after HO.out.below y0
      have HMS : Hid _ := pk_snoc (n := N) hz
      have hml := pk_length (n := N) (L := L1) (k := k) (by omega)
      have HPX : Hid _ := npick_any x N wr hbd.1 (by omega) (by omega)
      have HPY : Hid _ := npick_any y N wr hbd.2 (by omega) (by omega)
      generalize pickY x N = px at *
      generalize pickY y N = py at *
      generalize pk N L1 k = M at *
      clear hz hbd HC HPK HWC
      go_wp2_with (fail)
      refine Calls.mono HPX.out ?_
      rintro e W3 ⟨rfl, hW⟩
      obtain rfl : wr = W3 := hW.symm
      clear hW HPX
      go_wp2_with (fail)
      refine Calls.mono HPY.out ?_
      rintro e W3 ⟨rfl, hW⟩
      obtain rfl : wr = W3 := hW.symm
      clear hW HPY
      go_wp2_with (at_builtin; refine wpList_append_own_at _ rfl _ _ 22 rfl w0.heap.size 32 i0 _ 2 16 Try.underlying22 HI.out.1 HI.out.2.1 HI.out.2.2.1 HI.out.2.2.2 rfl (by decide) _ _ _ rfl (HO.out.row.alloc _) ⟨wr.heap.size, 0, none⟩ 1 1 [.int .i64 px, .int .i64 py] rfl rfl (news_cells (heap_alloc_new wr _)) (by intro u hu; simp at hu; rcases hu with rfl | rfl <;> rfl) (by unfold maxLen; omega) (by omega) (by have := HO.out.below.size; simp; omega) ?_; intro uu W6 r8 g8 _ s8)
      have HO2 : Hid (LOwn w0 W6 uu (M ++ [(px, py)])) := (HO.out.step (n_after wr _)).app (N := [(px, py)]) r8 g8
      clear r8 g8 s8 HO
      go_wp2_with (fail)
      go_roundg (m0 - (k + 1))
      case measure => have := HM.out; omega
      case rel => exact ⟨k + 1, by go_num, by omega, rfl, by rw [HMS.out]; exact HO2.out⟩
    · have HPL : Hid ((pk N L1 k).length = k) := pk_length (by omega)
      have HPM : Hid (∀ l ∈ pk N L1 k, (0 ≤ l.1 ∧ l.1 < (N : Int)) ∧ (0 ≤ l.2 ∧ l.2 < (N : Int))) := fun l hl => pk_mem (by omega) hl
      go_upto_region 6 with fail
      go_cut [32] from 25 to 32 (fun s32 wx => s32 = .bool false ∧ wx = wr)
      case first =>
        by_cases hkl : k < L1.length
        · have h100 : ¬ k < 100 := by have := HM3.out; omega
          go_wp2_with (fail)
          go_meet
          case rel => exact ⟨congrArg Value.bool (decide_eq_false (by omega)), rfl⟩
        · go_wp2_with (fail)
          go_meet
          case rel => exact ⟨rfl, rfl⟩
      case rest =>
        obtain ⟨rfl, hwc⟩ := hcut
        obtain rfl : wr = wc := hwc.symm
        clear hwc HC HLB hm1 HPK
        have hk100 : k ≤ 100 := by omega
        generalize pk N L1 k = P at *
        obtain ⟨op_, cp, hu8, hcp, hcpm, _⟩ := HO.out.rd.form
        subst hu8
        have HTW0 : Hid (LTwo w0 wr (.slice op_ P.length cp) (.slice none 0 0) P []) := ⟨HO.out, ⟨World.ownsRow_nil _ _ _ _, HO.out.below⟩, fun b _ e => by cases e⟩
        have hpl : P.length ≤ 100 := by have := HPL.out; omega
        clear HO HM HM3 hlt
        go_wp2_with (fail)
        go_loopg [9, 13] P.length (fun gm u j wr => ∃ (i : Nat) (M : List (Int × Int)), j = .int .i64 ((i : Int) - 1) ∧ i ≤ P.length ∧ gm = i ∧ Hid (Alike P M i) ∧ M.length ≤ 2 * (P.length - i) ∧ Hid (LTwo w0 wr (.slice op_ P.length cp) u P M))
        case atStart => exact ⟨P.length, [], rfl, Nat.le_refl _, rfl, Alike.start P, by simp, HTW0⟩
        case round =>
          clear HTW0
          obtain ⟨i', M, rfl, hi', hgm, HAL, hmm, HTW⟩ := hrel
          have HMM : Hid _ := hgm
          clear hgm
          cases i' with
          | succ i =>
            have hltl : i < P.length := by omega
            obtain ⟨_, _, e9, _, _, hpc⟩ := HTW.out.one.rd.form
            cases e9
            obtain ⟨gb, ob, x, y, rfl, hz, x0, y0⟩ := hpc i hltl
            have HAL2 : Hid _ := HAL.out.step hz
            have HT : Hid _ := HTW.out.two
            have ez : (((i + 1 : Nat) : Int) - 1) = (i : Int) := by omega
            rw [ez]
            clear hz hpc HAL HWC HPM HPL
            go_upto_region 14 with fail
            refine RV.region_by2 (fun j v w => match j with | 0 => v = u9 | 1 => v = .slice (some ⟨gb, ob, none⟩) P.length cp | 2 => v = .int .i64 (i : Int) | 3 => v = .pointer (some ⟨gb, ob + i * 2, none⟩) | 4 => v = .pointer (some ⟨gb, ob + i * 2 + 1, none⟩) | 5 => v = .int .i64 y | 6 => v = .slice (some ⟨gb, ob, none⟩) P.length cp | 7 => v = .int .i64 (i : Int) | 8 => v = .pointer (some ⟨gb, ob + i * 2, none⟩) | 9 => v = .pointer (some ⟨gb, ob + i * 2, none⟩) | 10 => v = .int .i64 x | 11 => v = .agg #[.int .i64 y, .int .i64 x] | 12 => v = .slice (some ⟨gb, ob, none⟩) P.length cp | 13 => v = .int .i64 (i : Int) | 14 => v = .pointer (some ⟨gb, ob + i * 2, none⟩) | 15 => v = .agg #[.int .i64 x, .int .i64 y] | 16 => True | 17 => True | 18 => True | _ => True) (fun γ L w => AG 2 16 17 18 wr w0.heap.size (u9) M.length (flat M) [.int .i64 y, .int .i64 x, .int .i64 x, .int .i64 y] γ L w) (by kernel_rfl) (by kernel_rfl) (by kernel_rfl) (by kernel_rfl) ?_ ?_ ?_
            · exact AG.start rfl rfl rfl (Below.refl _ wr).drew
            · generalize hD : dstOf _ = D
              generalize hWA : waitsFor _ = WA
              generalize hZ : Act.mk _ _ = Z
              obtain ⟨R, hR⟩ : ∃ R : Nat → Value → World → Prop, R = (fun j v w => match j with | 0 => v = u9 | 1 => v = .slice (some ⟨gb, ob, none⟩) P.length cp | 2 => v = .int .i64 (i : Int) | 3 => v = .pointer (some ⟨gb, ob + i * 2, none⟩) | 4 => v = .pointer (some ⟨gb, ob + i * 2 + 1, none⟩) | 5 => v = .int .i64 y | 6 => v = .slice (some ⟨gb, ob, none⟩) P.length cp | 7 => v = .int .i64 (i : Int) | 8 => v = .pointer (some ⟨gb, ob + i * 2, none⟩) | 9 => v = .pointer (some ⟨gb, ob + i * 2, none⟩) | 10 => v = .int .i64 x | 11 => v = .agg #[.int .i64 y, .int .i64 x] | 12 => v = .slice (some ⟨gb, ob, none⟩) P.length cp | 13 => v = .int .i64 (i : Int) | 14 => v = .pointer (some ⟨gb, ob + i * 2, none⟩) | 15 => v = .agg #[.int .i64 x, .int .i64 y] | 16 => True | 17 => True | 18 => True | _ => True) := ⟨_, rfl⟩
              rw [← hR]
              have d0 : D 0 = some 62 := by rw [← hD]; rfl
              have d1 : D 1 = some 63 := by rw [← hD]; rfl
              have d2 : D 2 = some 64 := by rw [← hD]; rfl
              have d3 : D 3 = some 65 := by rw [← hD]; rfl
              have d4 : D 4 = some 66 := by rw [← hD]; rfl
              have d5 : D 5 = some 67 := by rw [← hD]; rfl
              have d6 : D 6 = some 68 := by rw [← hD]; rfl
              have d7 : D 7 = some 69 := by rw [← hD]; rfl
              have d8 : D 8 = some 70 := by rw [← hD]; rfl
              have d9 : D 9 = some 71 := by rw [← hD]; rfl
              have d10 : D 10 = some 72 := by rw [← hD]; rfl
              have d11 : D 11 = some 73 := by rw [← hD]; rfl
              have d12 : D 12 = some 74 := by rw [← hD]; rfl
              have d13 : D 13 = some 75 := by rw [← hD]; rfl
              have d14 : D 14 = some 76 := by rw [← hD]; rfl
              have d15 : D 15 = some 77 := by rw [← hD]; rfl
              have d16 : D 16 = some 78 := by rw [← hD]; rfl
              have d17 : D 17 = some 79 := by rw [← hD]; rfl
              have d18 : D 18 = some 9 := by rw [← hD]; rfl
              have r0 : ∀ v w, R 0 v w = (v = u9) := fun v w => by rw [hR]; rfl
              have r1 : ∀ v w, R 1 v w = (v = .slice (some ⟨gb, ob, none⟩) P.length cp) := fun v w => by rw [hR]; rfl
              have r2 : ∀ v w, R 2 v w = (v = .int .i64 (i : Int)) := fun v w => by rw [hR]; rfl
              have r3 : ∀ v w, R 3 v w = (v = .pointer (some ⟨gb, ob + i * 2, none⟩)) := fun v w => by rw [hR]; rfl
              have r4 : ∀ v w, R 4 v w = (v = .pointer (some ⟨gb, ob + i * 2 + 1, none⟩)) := fun v w => by rw [hR]; rfl
              have r5 : ∀ v w, R 5 v w = (v = .int .i64 y) := fun v w => by rw [hR]; rfl
              have r6 : ∀ v w, R 6 v w = (v = .slice (some ⟨gb, ob, none⟩) P.length cp) := fun v w => by rw [hR]; rfl
              have r7 : ∀ v w, R 7 v w = (v = .int .i64 (i : Int)) := fun v w => by rw [hR]; rfl
              have r8 : ∀ v w, R 8 v w = (v = .pointer (some ⟨gb, ob + i * 2, none⟩)) := fun v w => by rw [hR]; rfl
              have r9 : ∀ v w, R 9 v w = (v = .pointer (some ⟨gb, ob + i * 2, none⟩)) := fun v w => by rw [hR]; rfl
              have r10 : ∀ v w, R 10 v w = (v = .int .i64 x) := fun v w => by rw [hR]; rfl
              have r11 : ∀ v w, R 11 v w = (v = .agg #[.int .i64 y, .int .i64 x]) := fun v w => by rw [hR]; rfl
              have r12 : ∀ v w, R 12 v w = (v = .slice (some ⟨gb, ob, none⟩) P.length cp) := fun v w => by rw [hR]; rfl
              have r13 : ∀ v w, R 13 v w = (v = .int .i64 (i : Int)) := fun v w => by rw [hR]; rfl
              have r14 : ∀ v w, R 14 v w = (v = .pointer (some ⟨gb, ob + i * 2, none⟩)) := fun v w => by rw [hR]; rfl
              have r15 : ∀ v w, R 15 v w = (v = .agg #[.int .i64 x, .int .i64 y]) := fun v w => by rw [hR]; rfl
              have r16 : ∀ v w, R 16 v w = (True) := fun v w => by rw [hR]; rfl
              have r17 : ∀ v w, R 17 v w = (True) := fun v w => by rw [hR]; rfl
              have r18 : ∀ v w, R 18 v w = (True) := fun v w => by rw [hR]; rfl
              have X9 : ∀ j, D j = some 9 → j = 18 := fun j hj => by rw [← hD] at hj; exact dst_once (by kernel_rfl) hj rfl
              have Y9 : Z.tmps[9]? = some (u9) := by rw [← hZ]; rfl
              have LA_18_0 : WA 18 0 := by rw [← hWA]; exact ⟨_, rfl, ⟨0, .phase⟩, by simp, rfl, rfl⟩
              have E8 : ∀ (γ : Nat → Value) (L : Nat → Bool) (a : Act) (w : World), RV.Held D WA R (fun γ L w => AG 2 16 17 18 wr w0.heap.size (u9) M.length (flat M) [.int .i64 y, .int .i64 x, .int .i64 x, .int .i64 y] γ L w) Z γ L a w → a.tmps[8]? = some (.slice (some ⟨gb, ob, none⟩) P.length cp) := fun γ L a w hH => (hH.rest 8 (by rw [← hD]; exact RV.dst_free (by kernel_rfl))).trans (by rw [← hZ]; rfl)
              have E13 : ∀ (γ : Nat → Value) (L : Nat → Bool) (a : Act) (w : World), RV.Held D WA R (fun γ L w => AG 2 16 17 18 wr w0.heap.size (u9) M.length (flat M) [.int .i64 y, .int .i64 x, .int .i64 x, .int .i64 y] γ L w) Z γ L a w → a.tmps[13]? = some (.int .i64 (i : Int)) := fun γ L a w hH => (hH.rest 13 (by rw [← hD]; exact RV.dst_free (by kernel_rfl))).trans (by rw [← hZ]; rfl)
              have K : ∀ j v w w', R j v w → R j v w' := by rw [hR]; intro j v w w' h; exact h
              have A_17_0 : WA 17 0 := by rw [← hWA]; exact ⟨_, rfl, ⟨0, .data⟩, by simp, rfl, rfl⟩
              have A_3_1 : WA 3 1 := by rw [← hWA]; exact ⟨_, rfl, ⟨1, .data⟩, by simp, rfl, rfl⟩
              have A_3_2 : WA 3 2 := by rw [← hWA]; exact ⟨_, rfl, ⟨2, .data⟩, by simp, rfl, rfl⟩
              have A_4_3 : WA 4 3 := by rw [← hWA]; exact ⟨_, rfl, ⟨3, .data⟩, by simp, rfl, rfl⟩
              have A_5_4 : WA 5 4 := by rw [← hWA]; exact ⟨_, rfl, ⟨4, .data⟩, by simp, rfl, rfl⟩
              have A_11_5 : WA 11 5 := by rw [← hWA]; exact ⟨_, rfl, ⟨5, .data⟩, by simp, rfl, rfl⟩
              have A_8_6 : WA 8 6 := by rw [← hWA]; exact ⟨_, rfl, ⟨6, .data⟩, by simp, rfl, rfl⟩
              have A_8_7 : WA 8 7 := by rw [← hWA]; exact ⟨_, rfl, ⟨7, .data⟩, by simp, rfl, rfl⟩
              have A_9_8 : WA 9 8 := by rw [← hWA]; exact ⟨_, rfl, ⟨8, .data⟩, by simp, rfl, rfl⟩
              have A_10_9 : WA 10 9 := by rw [← hWA]; exact ⟨_, rfl, ⟨9, .data⟩, by simp, rfl, rfl⟩
              have A_11_10 : WA 11 10 := by rw [← hWA]; exact ⟨_, rfl, ⟨10, .data⟩, by simp, rfl, rfl⟩
              have A_16_11 : WA 16 11 := by rw [← hWA]; exact ⟨_, rfl, ⟨11, .data⟩, by simp, rfl, rfl⟩
              have A_14_12 : WA 14 12 := by rw [← hWA]; exact ⟨_, rfl, ⟨12, .data⟩, by simp, rfl, rfl⟩
              have A_14_13 : WA 14 13 := by rw [← hWA]; exact ⟨_, rfl, ⟨13, .data⟩, by simp, rfl, rfl⟩
              have A_15_14 : WA 15 14 := by rw [← hWA]; exact ⟨_, rfl, ⟨14, .data⟩, by simp, rfl, rfl⟩
              have A_16_15 : WA 16 15 := by rw [← hWA]; exact ⟨_, rfl, ⟨15, .data⟩, by simp, rfl, rfl⟩
              have A_17_16 : WA 17 16 := by rw [← hWA]; exact ⟨_, rfl, ⟨16, .data⟩, by simp, rfl, rfl⟩
              have A_18_17 : WA 18 17 := by rw [← hWA]; exact ⟨_, rfl, ⟨17, .data⟩, by simp, rfl, rfl⟩
              clear hD hWA hZ hR
              refine RV.AllDo.cons 0 (RV.does_pure (fun γ v L w hl h => AG.other h _ (by decide) (by decide) (by decide)) (fun γ L a w hH hl hA => by have e0 := (hH.early 9 (fun j hj => by rw [X9 j hj]; exact RV.not_yet hH LA_18_0 hl)).trans Y9; exact ⟨u9, by simp [execOp, go_sem, e0], (r0 _ _).mpr rfl⟩)) ?_
              refine RV.AllDo.cons 1 (RV.does_pure (fun γ v L w hl h => AG.other h _ (by decide) (by decide) (by decide)) (fun γ L a w hH hl hA => by have e0 := E8 γ L a w hH; exact ⟨.slice (some ⟨gb, ob, none⟩) P.length cp, by simp [execOp, go_sem, e0], (r1 _ _).mpr rfl⟩)) ?_
              refine RV.AllDo.cons 2 (RV.does_pure (fun γ v L w hl h => AG.other h _ (by decide) (by decide) (by decide)) (fun γ L a w hH hl hA => by have e0 := E13 γ L a w hH; exact ⟨.int .i64 (i : Int), by simp [execOp, go_sem, e0], (r2 _ _).mpr rfl⟩)) ?_
              refine RV.AllDo.cons 3 (RV.does_pure (fun γ v L w hl h => AG.other h _ (by decide) (by decide) (by decide)) (fun γ L a w hH hl hA => by have l0 : L 1 = true := hA ⟨1, .data⟩ (by simp) rfl; have e0 := hH.slot 1 63 d1 l0; have g0 := hH.holds 1 l0; rw [r1] at g0; rw [g0] at e0; have l1 : L 2 = true := hA ⟨2, .data⟩ (by simp) rfl; have e1 := hH.slot 2 64 d2 l1; have g1 := hH.holds 2 l1; rw [r2] at g1; rw [g1] at e1; exact ⟨.pointer (some ⟨gb, ob + i * 2, none⟩), by simp [execOp, go_sem, e0, e1, hltl], (r3 _ _).mpr rfl⟩)) ?_
              refine RV.AllDo.cons 4 (RV.does_pure (fun γ v L w hl h => AG.other h _ (by decide) (by decide) (by decide)) (fun γ L a w hH hl hA => by have l0 : L 3 = true := hA ⟨3, .data⟩ (by simp) rfl; have e0 := hH.slot 3 65 d3 l0; have g0 := hH.holds 3 l0; rw [r3] at g0; rw [g0] at e0; exact ⟨.pointer (some ⟨gb, ob + i * 2 + 1, none⟩), by simp [execOp, go_sem, e0], (r4 _ _).mpr rfl⟩)) ?_
              refine RV.AllDo.cons 5 (RV.does_pure (fun γ v L w hl h => AG.other h _ (by decide) (by decide) (by decide)) (fun γ L a w hH hl hA => by have l0 : L 4 = true := hA ⟨4, .data⟩ (by simp) rfl; have e0 := hH.slot 4 66 d4 l0; have g0 := hH.holds 4 l0; rw [r4] at g0; rw [g0] at e0; have z09 := c_after (AG.early hH.glob (RV.not_yet hH A_17_16 (RV.not_yet hH A_16_11 (RV.not_yet hH A_11_5 hl)))).1 y0; exact ⟨.int .i64 y, by simp [execOp, go_sem, e0, z09], (r5 _ _).mpr rfl⟩)) ?_
              refine RV.AllDo.cons 6 (RV.does_pure (fun γ v L w hl h => AG.other h _ (by decide) (by decide) (by decide)) (fun γ L a w hH hl hA => by have e0 := E8 γ L a w hH; exact ⟨.slice (some ⟨gb, ob, none⟩) P.length cp, by simp [execOp, go_sem, e0], (r6 _ _).mpr rfl⟩)) ?_
              refine RV.AllDo.cons 7 (RV.does_pure (fun γ v L w hl h => AG.other h _ (by decide) (by decide) (by decide)) (fun γ L a w hH hl hA => by have e0 := E13 γ L a w hH; exact ⟨.int .i64 (i : Int), by simp [execOp, go_sem, e0], (r7 _ _).mpr rfl⟩)) ?_
              refine RV.AllDo.cons 8 (RV.does_pure (fun γ v L w hl h => AG.other h _ (by decide) (by decide) (by decide)) (fun γ L a w hH hl hA => by have l0 : L 6 = true := hA ⟨6, .data⟩ (by simp) rfl; have e0 := hH.slot 6 68 d6 l0; have g0 := hH.holds 6 l0; rw [r6] at g0; rw [g0] at e0; have l1 : L 7 = true := hA ⟨7, .data⟩ (by simp) rfl; have e1 := hH.slot 7 69 d7 l1; have g1 := hH.holds 7 l1; rw [r7] at g1; rw [g1] at e1; exact ⟨.pointer (some ⟨gb, ob + i * 2, none⟩), by simp [execOp, go_sem, e0, e1, hltl], (r8 _ _).mpr rfl⟩)) ?_
              refine RV.AllDo.cons 9 (RV.does_pure (fun γ v L w hl h => AG.other h _ (by decide) (by decide) (by decide)) (fun γ L a w hH hl hA => by have l0 : L 8 = true := hA ⟨8, .data⟩ (by simp) rfl; have e0 := hH.slot 8 70 d8 l0; have g0 := hH.holds 8 l0; rw [r8] at g0; rw [g0] at e0; exact ⟨.pointer (some ⟨gb, ob + i * 2, none⟩), by simp [execOp, go_sem, e0], (r9 _ _).mpr rfl⟩)) ?_
              refine RV.AllDo.cons 10 (RV.does_pure (fun γ v L w hl h => AG.other h _ (by decide) (by decide) (by decide)) (fun γ L a w hH hl hA => by have l0 : L 9 = true := hA ⟨9, .data⟩ (by simp) rfl; have e0 := hH.slot 9 71 d9 l0; have g0 := hH.holds 9 l0; rw [r9] at g0; rw [g0] at e0; have z09 := c_after (AG.early hH.glob (RV.not_yet hH A_17_16 (RV.not_yet hH A_16_11 (RV.not_yet hH A_11_10 hl)))).1 x0; exact ⟨.int .i64 x, by simp [execOp, go_sem, e0, z09], (r10 _ _).mpr rfl⟩)) ?_
              refine RV.AllDo.cons 11 (RV.does_pure (fun γ v L w hl h => AG.other h _ (by decide) (by decide) (by decide)) (fun γ L a w hH hl hA => by have l0 : L 5 = true := hA ⟨5, .data⟩ (by simp) rfl; have e0 := hH.slot 5 67 d5 l0; have g0 := hH.holds 5 l0; rw [r5] at g0; rw [g0] at e0; have l1 : L 10 = true := hA ⟨10, .data⟩ (by simp) rfl; have e1 := hH.slot 10 72 d10 l1; have g1 := hH.holds 10 l1; rw [r10] at g1; rw [g1] at e1; exact ⟨.agg #[.int .i64 y, .int .i64 x], by simp [execOp, go_sem, e0, e1], (r11 _ _).mpr rfl⟩)) ?_
              refine RV.AllDo.cons 12 (RV.does_pure (fun γ v L w hl h => AG.other h _ (by decide) (by decide) (by decide)) (fun γ L a w hH hl hA => by have e0 := E8 γ L a w hH; exact ⟨.slice (some ⟨gb, ob, none⟩) P.length cp, by simp [execOp, go_sem, e0], (r12 _ _).mpr rfl⟩)) ?_
              refine RV.AllDo.cons 13 (RV.does_pure (fun γ v L w hl h => AG.other h _ (by decide) (by decide) (by decide)) (fun γ L a w hH hl hA => by have e0 := E13 γ L a w hH; exact ⟨.int .i64 (i : Int), by simp [execOp, go_sem, e0], (r13 _ _).mpr rfl⟩)) ?_
              refine RV.AllDo.cons 14 (RV.does_pure (fun γ v L w hl h => AG.other h _ (by decide) (by decide) (by decide)) (fun γ L a w hH hl hA => by have l0 : L 12 = true := hA ⟨12, .data⟩ (by simp) rfl; have e0 := hH.slot 12 74 d12 l0; have g0 := hH.holds 12 l0; rw [r12] at g0; rw [g0] at e0; have l1 : L 13 = true := hA ⟨13, .data⟩ (by simp) rfl; have e1 := hH.slot 13 75 d13 l1; have g1 := hH.holds 13 l1; rw [r13] at g1; rw [g1] at e1; exact ⟨.pointer (some ⟨gb, ob + i * 2, none⟩), by simp [execOp, go_sem, e0, e1, hltl], (r14 _ _).mpr rfl⟩)) ?_
              refine RV.AllDo.cons 15 (RV.does_pure (fun γ v L w hl h => AG.other h _ (by decide) (by decide) (by decide)) (fun γ L a w hH hl hA => by have l0 : L 14 = true := hA ⟨14, .data⟩ (by simp) rfl; have e0 := hH.slot 14 76 d14 l0; have g0 := hH.holds 14 l0; rw [r14] at g0; rw [g0] at e0; have z09 := c_after (AG.early hH.glob (RV.not_yet hH A_17_16 (RV.not_yet hH A_16_15 hl))).1 x0; have z19 := c_after (AG.early hH.glob (RV.not_yet hH A_17_16 (RV.not_yet hH A_16_15 hl))).1 y0; exact ⟨.agg #[.int .i64 x, .int .i64 y], by simp [execOp, go_sem, e0, z09, z19], (r15 _ _).mpr rfl⟩)) ?_
              refine RV.AllDo.cons 16 (RV.does_step (fun γ L a w hH hl hA => by have l0 : L 11 = true := hA ⟨11, .data⟩ (by simp) rfl; have e0 := hH.slot 11 73 d11 l0; have g0 := hH.holds 11 l0; rw [r11] at g0; rw [g0] at e0; have l1 : L 15 = true := hA ⟨15, .data⟩ (by simp) rfl; have e1 := hH.slot 15 77 d15 l1; have g1 := hH.holds 15 l1; rw [r15] at g1; rw [g1] at e1; exact ⟨.slice (some ⟨w.heap.size, 0, none⟩) 2 2, w.alloc (.cells #[.int .i64 y, .int .i64 x, .int .i64 x, .int .i64 y] 32), by simp [execOp, go_sem, e0, e1], (r16 _ _).mpr trivial, fun j v _ h => K j v _ _ h, AG.lay hH.glob (RV.not_yet hH A_17_16 hl) (by decide) (by decide)⟩)) ?_
              refine RV.AllDo.cons 17 (RV.does_step (fun γ L a w hH hl hA => by have l0 : L 0 = true := hA ⟨0, .data⟩ (by simp) rfl; have e0 := hH.slot 0 62 d0 l0; have g0 := hH.holds 0 l0; rw [r0] at g0; rw [g0] at e0; have l1 : L 16 = true := hA ⟨16, .data⟩ (by simp) rfl; have e1 := hH.slot 16 78 d16 l1; have g1 := hH.holds 16 l1; rw [r16] at g1; obtain ⟨y2, y3⟩ := AG.early hH.glob hl; obtain ⟨g9, t1, t2⟩ := y3 l1; rw [t1] at e1; have q9 : L 18 = false := RV.not_yet hH A_18_17 hl; obtain ⟨v9, w9, t3, t4, t5, t6⟩ := exec_app (P := Try.prog) (w := w) (a := a) (.tmp 62) (.tmp 78) 22 22 w0.heap.size 32 i0 _ 2 16 Try.underlying22 HI.out.1 HI.out.2.1 HI.out.2.2.1 HI.out.2.2.2 rfl (by decide) (u9) M.length (flat M) (by simp [go_sem, e0]) (own_below HT.out.row y2) ⟨g9, 0, none⟩ 2 2 [.int .i64 y, .int .i64 x, .int .i64 x, .int .i64 y] (by simp [go_sem, e1]) rfl (news_cells t2) (by intro u hu; simp at hu; rcases hu with rfl | rfl | rfl | rfl <;> rfl) (by unfold maxLen; omega) (by omega) (Nat.le_trans HT.out.below.size y2.size); exact ⟨v9, w9, t3 _ rfl rfl, (r17 _ _).mpr trivial, fun j v _ h => K j v _ _ h, AG.app q9 (by decide) t4 (gtrans (below_grown y2 _) t5) (NewOr.below y2 t6)⟩)) ?_
              refine RV.AllDo.cons 18 (RV.does_step (fun γ L a w hH hl hA => by have l0 : L 17 = true := hA ⟨17, .data⟩ (by simp) rfl; have e0 := hH.slot 17 79 d17 l0; have g0 := hH.holds 17 l0; rw [r17] at g0; exact ⟨γ 17, w, by simp [execOp, go_sem, e0], (r18 _ _).mpr trivial, fun j v _ h => h, AG.set hH.glob (by decide) (by decide)⟩)) ?_
              exact RV.AllDo.nil
            · intro γ a5 w5 L9 hL hLo hH
              have ha := RV.held_act hH hL (by kernel_rfl) (by kernel_rfl)
              obtain ⟨y3, y1, y2, y4⟩ := AG.done hH.glob (hL 17 (by decide)) (hL 18 (by decide))
              rw [ha]
              clear ha hH hL hLo
              simp only [RV.putAll, Act.put, List.setIfInBounds_toArray, List.set_cons_zero, List.set_cons_succ, Nat.zero_add, Nat.reduceAdd]
              rw [y3]
              have HT2 : Hid (LTwo w0 w5 (.slice (some ⟨gb, ob, none⟩) P.length cp) (γ 17) P (M ++ [(y, x), (x, y)])) := HTW.out.app (N := [(y, x), (x, y)]) y1 y2 y4
              clear y1 y2 y3 y4 HT HTW
              generalize γ 17 = u99 at *
              go_wp2_with (fail)
              go_roundg i
              case measure => have := HMM.out; omega
              case rel => exact ⟨i, M ++ [(y, x), (x, y)], rfl, by omega, rfl, HAL2.out, by simp; omega, HT2.out⟩
          | zero =>
            have HT2 : Hid _ := HTW
            clear hi'
            rw [show (((0 : Nat) : Int) - 1) = -1 from rfl]
            have G1 := groups_at (N : Int) (.slice op_ P.length cp) (.slice o2 L2.length c2) P L2 wr HT2.out.one.rd (HWL.out.below HT2.out.one.below) rfl
            rw [cnt_nat (by omega)] at G1
            have HG1 : Hid _ := G1
            clear G1 HTW
            go_wp2_with (fail)
            refine Calls.mono HG1.out ?_
            clear HG1
            rintro e W5 ⟨bg, rfl, hbg, rg, b5⟩
            have HGC : Hid (∀ i, i < N → W5.cell? ⟨bg, i, none⟩ = some (.int .i64 (grpF N L2 P i : Int))) := fun i hi => by
              obtain ⟨_, _, e, _, _, h⟩ := rg.grp
              cases e
              obtain ⟨g, off, e, hc⟩ := h i hi
              cases e
              rw [Nat.zero_add] at hc
              exact hc
            have HRG : Hid _ := rg
            have HT5 : Hid _ := HT2.out.step b5
            have G2 := groups_any (N : Int) u9 (.slice o2 L2.length c2) M L2 W5 HT5.out.two.rd (HWL.out.below HT5.out.one.below) rfl
            rw [cnt_nat (by omega), HAL.out.grp] at G2
            have HG2 : Hid _ := G2
            clear G2 b5 rg hbg HT2 HAL
            go_wp2_with (fail)
            refine Calls.mono HG2.out ?_
            clear HG2
            rintro e W6 ⟨vh, rfl, rh, b6⟩
            have HNB := numbers_any _ vh _ _ W6 (HRG.out.below b6) rh (by rw [grp_length]; omega) (by rw [grp_length]; omega)
            rw [decide_eq_true rfl] at HNB
            have HNB2 : Hid _ := HNB
            have B6 : Hid _ := b6
            clear HNB b6 rh
            go_wp2_with (fail)
            refine Calls.mono HNB2.out ?_
            clear HNB2
            rintro e W7 ⟨rfl, b7⟩
            have b57 := b_step B6.out b7
            have HT7 : Hid _ := HT5.out.step b57
            have HRG7 : Hid _ := HRG.out.below b57
            have HGC7 : Hid (∀ i, i < N → W7.cell? ⟨bg, i, none⟩ = some (.int .i64 (grpF N L2 P i : Int))) := fun i hi => c_after b57 (HGC.out i hi)
            have HLOW : Hid _ := (grp_is N L2 P).low
            clear b7 b57 B6 HT5 HRG HGC hk hm2 hk100
            go_wp2_with (fail)
            go_loopg [15] N (fun gn s15 wr => ∃ i : Nat, s15 = .int .i64 (i : Int) ∧ i ≤ N ∧ gn = N - i ∧ Hid (Below W7.heap.size W7 wr))
            case atStart => exact ⟨0, rfl, Nat.zero_le _, rfl, Below.refl _ _⟩
            case round =>
              obtain ⟨i, rfl, hi, hgn, HB⟩ := hrel
              have HN : Hid _ := hgn
              clear hgn
              by_cases hit : i < N
              · have HWV : Hid ((i < L2.length → ∃ g off, o2 = some ⟨g, off, none⟩ ∧ wr.cell? ⟨g, off + i, none⟩ = some (.bool (L2[i]?.getD false))) ∧ (¬ i < L2.length → L2[i]?.getD false = false)) := by
                  refine ⟨fun h => ?_, fun h => by rw [List.getElem?_eq_none (by omega)]; rfl⟩
                  obtain ⟨g, off, z, e, hz, hc⟩ := HWC.out i h
                  exact ⟨g, off, e, by rw [hz]; exact c_after HB.out (c_after HT7.out.one.below hc)⟩
                have ci := c_after HB.out (HGC7.out i hit)
                have hg1 := HLOW.out.le i
                have cg := c_after HB.out (HGC7.out (grpF N L2 P i) (by omega))
                rw [HLOW.out.fix i] at cg
                have HW1 : Hid (L2[i]?.getD false = true → (memb (grp N L2 P) (i : Int) N).length = 1 ∧ grpF N L2 P i = i) := fun h => wall_one hit h
                have HRGW : Hid _ := HRG7.out.below HB.out
                generalize L2[i]?.getD false = wv at *
                go_upto_region 21 with fail
                go_cut [16] from 106 to 115 (fun s16 wx => s16 = .bool wv ∧ wx = wr)
                case first =>
                  by_cases hil : i < L2.length
                  · obtain ⟨g9, off9, rfl, cw⟩ := HWV.out.1 hil
                    clear HWV HW1 HWC HWL
                    go_wp2_with (fail)
                    go_meet
                    case rel => exact ⟨rfl, rfl⟩
                  · have e := HWV.out.2 hil
                    subst e
                    clear HWV HW1 HWC HWL
                    go_wp2_with (fail)
                    go_meet
                    case rel => exact ⟨rfl, rfl⟩
                case rest =>
                  obtain ⟨rfl, hwc⟩ := hcut
                  obtain rfl : wr = wc := hwc.symm
                  clear hwc HWV
                  cases wv with
                  | false =>
                    generalize grpF N L2 P i = gi at *
                    have q1 : ¬ (gi : Int) < 0 := by omega
                    have q2 : decide ((gi : Int) < 0) = false := decide_eq_false q1
                    have q3 : ¬ i < gi := by omega
                    have q4 : decide ((i : Int) < (gi : Int)) = false := decide_eq_false (by omega)
                    have q5 : ((gi : Int) == (gi : Int)) = true := beq_self_eq_true _
                    have hgiN : gi < N := by omega
                    go_upto_region 22 with fail
                    go_region
                    go_wp2_with (fail)
                    go_roundg (N - (i + 1))
                    case measure => have := HN.out; omega
                    case rel => exact ⟨i + 1, by go_num, by omega, rfl, HB.out.drew⟩
                  | true =>
                    obtain ⟨hm1, hgi⟩ := HW1.out rfl
                    rw [hgi] at ci
                    have q1 : ¬ (i : Int) < 0 := by omega
                    have HMC : Hid (∀ w, Below wr.heap.size wr w → Calls Try.prog 13 #[.slice (some ⟨bg, 0, none⟩) N N, .int .i64 (i : Int)] w fun e W => ∃ o c, e = .returned (.slice o 1 c) ∧ Below w.heap.size w W) := fun w hw => by
                      have hM := members_any (.slice (some ⟨bg, 0, none⟩) N N) (grp N L2 P) (i : Int) w (HRGW.out.below hw) (by rw [grp_length]; omega)
                      rw [grp_length] at hM
                      refine Calls.mono hM ?_
                      rintro e W ⟨u, rfl, hio⟩
                      obtain ⟨o, c, e, _⟩ := (RdI.of_row hio.row).form
                      rw [hm1] at e
                      subst e
                      exact ⟨o, c, rfl, hio.below⟩
                    clear HW1 hm1 cg hg1 HRGW hgi
                    go_upto_region 22 with fail
                    refine RV.region_by2 (fun j v w => match j with | 0 => v = .slice (some ⟨bg, 0, none⟩) N N | 1 => v = .int .i64 (i : Int) | 2 => v = .pointer (some ⟨bg, i, none⟩) | 3 => v = .int .i64 (i : Int) | 4 => v = .int .i64 (i : Int) | 5 => v = .bool false | 6 => v = .bool false | 7 => v = .slice (some ⟨bg, 0, none⟩) N N | 8 => v = .int .i64 (i : Int) | 9 => v = .pointer (some ⟨bg, i, none⟩) | 10 => v = .int .i64 (i : Int) | 11 => v = .bool false | 12 => v = .bool false | 13 => v = .bool false | 14 => v = .slice (some ⟨bg, 0, none⟩) N N | 15 => v = .slice (some ⟨bg, 0, none⟩) N N | 16 => v = .int .i64 (i : Int) | 17 => v = .pointer (some ⟨bg, i, none⟩) | 18 => v = .int .i64 (i : Int) | 19 => v = .pointer (some ⟨bg, i, none⟩) | 20 => v = .int .i64 (i : Int) | 21 => v = .slice (some ⟨bg, 0, none⟩) N N | 22 => v = .int .i64 (i : Int) | 23 => v = .pointer (some ⟨bg, i, none⟩) | 24 => v = .int .i64 (i : Int) | 25 => v = .bool false | 26 => v = .bool false | 27 => v = .bool false | 28 => v = .bool true | 29 => v = .bool true | 30 => v = .slice (some ⟨bg, 0, none⟩) N N | 31 => v = .int .i64 (i : Int) | 32 => v = .pointer (some ⟨bg, i, none⟩) | 33 => v = .int .i64 (i : Int) | 34 => v = .int .i64 (i : Int) | 35 => v = .bool false | 36 => v = .bool false | 37 => v = .slice (some ⟨bg, 0, none⟩) N N | 38 => v = .int .i64 (i : Int) | 39 => (fun v w => ∃ (o : Option Addr) (c : Nat), v = .slice o 1 c) v w | 40 => v = .int .i64 1 | 41 => v = .bool false | 42 => v = .bool false | 43 => v = .bool false | 44 => v = .bool false | _ => True) (fun γ L w => Below wr.heap.size wr w) (by kernel_rfl) (by kernel_rfl) (by kernel_rfl) (by kernel_rfl) ?_ ?_ ?_
                    · exact (Below.refl _ wr).drew
                    · generalize hD : dstOf _ = D
                      generalize hWA : waitsFor _ = WA
                      generalize hZ : Act.mk _ _ = Z
                      obtain ⟨R, hR⟩ : ∃ R : Nat → Value → World → Prop, R = (fun j v w => match j with | 0 => v = .slice (some ⟨bg, 0, none⟩) N N | 1 => v = .int .i64 (i : Int) | 2 => v = .pointer (some ⟨bg, i, none⟩) | 3 => v = .int .i64 (i : Int) | 4 => v = .int .i64 (i : Int) | 5 => v = .bool false | 6 => v = .bool false | 7 => v = .slice (some ⟨bg, 0, none⟩) N N | 8 => v = .int .i64 (i : Int) | 9 => v = .pointer (some ⟨bg, i, none⟩) | 10 => v = .int .i64 (i : Int) | 11 => v = .bool false | 12 => v = .bool false | 13 => v = .bool false | 14 => v = .slice (some ⟨bg, 0, none⟩) N N | 15 => v = .slice (some ⟨bg, 0, none⟩) N N | 16 => v = .int .i64 (i : Int) | 17 => v = .pointer (some ⟨bg, i, none⟩) | 18 => v = .int .i64 (i : Int) | 19 => v = .pointer (some ⟨bg, i, none⟩) | 20 => v = .int .i64 (i : Int) | 21 => v = .slice (some ⟨bg, 0, none⟩) N N | 22 => v = .int .i64 (i : Int) | 23 => v = .pointer (some ⟨bg, i, none⟩) | 24 => v = .int .i64 (i : Int) | 25 => v = .bool false | 26 => v = .bool false | 27 => v = .bool false | 28 => v = .bool true | 29 => v = .bool true | 30 => v = .slice (some ⟨bg, 0, none⟩) N N | 31 => v = .int .i64 (i : Int) | 32 => v = .pointer (some ⟨bg, i, none⟩) | 33 => v = .int .i64 (i : Int) | 34 => v = .int .i64 (i : Int) | 35 => v = .bool false | 36 => v = .bool false | 37 => v = .slice (some ⟨bg, 0, none⟩) N N | 38 => v = .int .i64 (i : Int) | 39 => (fun v w => ∃ (o : Option Addr) (c : Nat), v = .slice o 1 c) v w | 40 => v = .int .i64 1 | 41 => v = .bool false | 42 => v = .bool false | 43 => v = .bool false | 44 => v = .bool false | _ => True) := ⟨_, rfl⟩
                      rw [← hR]
                      have d0 : D 0 = some 116 := by rw [← hD]; rfl
                      have d1 : D 1 = some 117 := by rw [← hD]; rfl
                      have d2 : D 2 = some 118 := by rw [← hD]; rfl
                      have d3 : D 3 = some 119 := by rw [← hD]; rfl
                      have d4 : D 4 = some 120 := by rw [← hD]; rfl
                      have d5 : D 5 = some 121 := by rw [← hD]; rfl
                      have d6 : D 6 = some 122 := by rw [← hD]; rfl
                      have d7 : D 7 = some 123 := by rw [← hD]; rfl
                      have d8 : D 8 = some 124 := by rw [← hD]; rfl
                      have d9 : D 9 = some 125 := by rw [← hD]; rfl
                      have d10 : D 10 = some 126 := by rw [← hD]; rfl
                      have d11 : D 11 = some 127 := by rw [← hD]; rfl
                      have d12 : D 12 = some 128 := by rw [← hD]; rfl
                      have d13 : D 13 = some 129 := by rw [← hD]; rfl
                      have d14 : D 14 = some 130 := by rw [← hD]; rfl
                      have d15 : D 15 = some 131 := by rw [← hD]; rfl
                      have d16 : D 16 = some 132 := by rw [← hD]; rfl
                      have d17 : D 17 = some 133 := by rw [← hD]; rfl
                      have d18 : D 18 = some 134 := by rw [← hD]; rfl
                      have d19 : D 19 = some 135 := by rw [← hD]; rfl
                      have d20 : D 20 = some 136 := by rw [← hD]; rfl
                      have d21 : D 21 = some 137 := by rw [← hD]; rfl
                      have d22 : D 22 = some 138 := by rw [← hD]; rfl
                      have d23 : D 23 = some 139 := by rw [← hD]; rfl
                      have d24 : D 24 = some 140 := by rw [← hD]; rfl
                      have d25 : D 25 = some 141 := by rw [← hD]; rfl
                      have d26 : D 26 = some 142 := by rw [← hD]; rfl
                      have d27 : D 27 = some 143 := by rw [← hD]; rfl
                      have d28 : D 28 = some 144 := by rw [← hD]; rfl
                      have d29 : D 29 = some 145 := by rw [← hD]; rfl
                      have d30 : D 30 = some 146 := by rw [← hD]; rfl
                      have d31 : D 31 = some 147 := by rw [← hD]; rfl
                      have d32 : D 32 = some 148 := by rw [← hD]; rfl
                      have d33 : D 33 = some 149 := by rw [← hD]; rfl
                      have d34 : D 34 = some 150 := by rw [← hD]; rfl
                      have d35 : D 35 = some 151 := by rw [← hD]; rfl
                      have d36 : D 36 = some 152 := by rw [← hD]; rfl
                      have d37 : D 37 = some 153 := by rw [← hD]; rfl
                      have d38 : D 38 = some 154 := by rw [← hD]; rfl
                      have d39 : D 39 = some 155 := by rw [← hD]; rfl
                      have d40 : D 40 = some 156 := by rw [← hD]; rfl
                      have d41 : D 41 = some 157 := by rw [← hD]; rfl
                      have d42 : D 42 = some 158 := by rw [← hD]; rfl
                      have d43 : D 43 = some 159 := by rw [← hD]; rfl
                      have d44 : D 44 = some 160 := by rw [← hD]; rfl
                      have r0 : ∀ v w, R 0 v w = (v = .slice (some ⟨bg, 0, none⟩) N N) := fun v w => by rw [hR]; rfl
                      have r1 : ∀ v w, R 1 v w = (v = .int .i64 (i : Int)) := fun v w => by rw [hR]; rfl
                      have r2 : ∀ v w, R 2 v w = (v = .pointer (some ⟨bg, i, none⟩)) := fun v w => by rw [hR]; rfl
                      have r3 : ∀ v w, R 3 v w = (v = .int .i64 (i : Int)) := fun v w => by rw [hR]; rfl
                      have r4 : ∀ v w, R 4 v w = (v = .int .i64 (i : Int)) := fun v w => by rw [hR]; rfl
                      have r5 : ∀ v w, R 5 v w = (v = .bool false) := fun v w => by rw [hR]; rfl
                      have r6 : ∀ v w, R 6 v w = (v = .bool false) := fun v w => by rw [hR]; rfl
                      have r7 : ∀ v w, R 7 v w = (v = .slice (some ⟨bg, 0, none⟩) N N) := fun v w => by rw [hR]; rfl
                      have r8 : ∀ v w, R 8 v w = (v = .int .i64 (i : Int)) := fun v w => by rw [hR]; rfl
                      have r9 : ∀ v w, R 9 v w = (v = .pointer (some ⟨bg, i, none⟩)) := fun v w => by rw [hR]; rfl
                      have r10 : ∀ v w, R 10 v w = (v = .int .i64 (i : Int)) := fun v w => by rw [hR]; rfl
                      have r11 : ∀ v w, R 11 v w = (v = .bool false) := fun v w => by rw [hR]; rfl
                      have r12 : ∀ v w, R 12 v w = (v = .bool false) := fun v w => by rw [hR]; rfl
                      have r13 : ∀ v w, R 13 v w = (v = .bool false) := fun v w => by rw [hR]; rfl
                      have r14 : ∀ v w, R 14 v w = (v = .slice (some ⟨bg, 0, none⟩) N N) := fun v w => by rw [hR]; rfl
                      have r15 : ∀ v w, R 15 v w = (v = .slice (some ⟨bg, 0, none⟩) N N) := fun v w => by rw [hR]; rfl
                      have r16 : ∀ v w, R 16 v w = (v = .int .i64 (i : Int)) := fun v w => by rw [hR]; rfl
                      have r17 : ∀ v w, R 17 v w = (v = .pointer (some ⟨bg, i, none⟩)) := fun v w => by rw [hR]; rfl
                      have r18 : ∀ v w, R 18 v w = (v = .int .i64 (i : Int)) := fun v w => by rw [hR]; rfl
                      have r19 : ∀ v w, R 19 v w = (v = .pointer (some ⟨bg, i, none⟩)) := fun v w => by rw [hR]; rfl
                      have r20 : ∀ v w, R 20 v w = (v = .int .i64 (i : Int)) := fun v w => by rw [hR]; rfl
                      have r21 : ∀ v w, R 21 v w = (v = .slice (some ⟨bg, 0, none⟩) N N) := fun v w => by rw [hR]; rfl
                      have r22 : ∀ v w, R 22 v w = (v = .int .i64 (i : Int)) := fun v w => by rw [hR]; rfl
                      have r23 : ∀ v w, R 23 v w = (v = .pointer (some ⟨bg, i, none⟩)) := fun v w => by rw [hR]; rfl
                      have r24 : ∀ v w, R 24 v w = (v = .int .i64 (i : Int)) := fun v w => by rw [hR]; rfl
                      have r25 : ∀ v w, R 25 v w = (v = .bool false) := fun v w => by rw [hR]; rfl
                      have r26 : ∀ v w, R 26 v w = (v = .bool false) := fun v w => by rw [hR]; rfl
                      have r27 : ∀ v w, R 27 v w = (v = .bool false) := fun v w => by rw [hR]; rfl
                      have r28 : ∀ v w, R 28 v w = (v = .bool true) := fun v w => by rw [hR]; rfl
                      have r29 : ∀ v w, R 29 v w = (v = .bool true) := fun v w => by rw [hR]; rfl
                      have r30 : ∀ v w, R 30 v w = (v = .slice (some ⟨bg, 0, none⟩) N N) := fun v w => by rw [hR]; rfl
                      have r31 : ∀ v w, R 31 v w = (v = .int .i64 (i : Int)) := fun v w => by rw [hR]; rfl
                      have r32 : ∀ v w, R 32 v w = (v = .pointer (some ⟨bg, i, none⟩)) := fun v w => by rw [hR]; rfl
                      have r33 : ∀ v w, R 33 v w = (v = .int .i64 (i : Int)) := fun v w => by rw [hR]; rfl
                      have r34 : ∀ v w, R 34 v w = (v = .int .i64 (i : Int)) := fun v w => by rw [hR]; rfl
                      have r35 : ∀ v w, R 35 v w = (v = .bool false) := fun v w => by rw [hR]; rfl
                      have r36 : ∀ v w, R 36 v w = (v = .bool false) := fun v w => by rw [hR]; rfl
                      have r37 : ∀ v w, R 37 v w = (v = .slice (some ⟨bg, 0, none⟩) N N) := fun v w => by rw [hR]; rfl
                      have r38 : ∀ v w, R 38 v w = (v = .int .i64 (i : Int)) := fun v w => by rw [hR]; rfl
                      have r39 : ∀ v w, R 39 v w = ((fun v w => ∃ (o : Option Addr) (c : Nat), v = .slice o 1 c) v w) := fun v w => by rw [hR]; rfl
                      have r40 : ∀ v w, R 40 v w = (v = .int .i64 1) := fun v w => by rw [hR]; rfl
                      have r41 : ∀ v w, R 41 v w = (v = .bool false) := fun v w => by rw [hR]; rfl
                      have r42 : ∀ v w, R 42 v w = (v = .bool false) := fun v w => by rw [hR]; rfl
                      have r43 : ∀ v w, R 43 v w = (v = .bool false) := fun v w => by rw [hR]; rfl
                      have r44 : ∀ v w, R 44 v w = (v = .bool false) := fun v w => by rw [hR]; rfl
                      have E14 : ∀ (γ : Nat → Value) (L : Nat → Bool) (a : Act) (w : World), RV.Held D WA R (fun γ L w => Below wr.heap.size wr w) Z γ L a w → a.tmps[14]? = some (.slice (some ⟨bg, 0, none⟩) N N) := fun γ L a w hH => (hH.rest 14 (by rw [← hD]; exact RV.dst_free (by kernel_rfl))).trans (by rw [← hZ]; rfl)
                      have E15 : ∀ (γ : Nat → Value) (L : Nat → Bool) (a : Act) (w : World), RV.Held D WA R (fun γ L w => Below wr.heap.size wr w) Z γ L a w → a.tmps[15]? = some (.int .i64 (i : Int)) := fun γ L a w hH => (hH.rest 15 (by rw [← hD]; exact RV.dst_free (by kernel_rfl))).trans (by rw [← hZ]; rfl)
                      have E16 : ∀ (γ : Nat → Value) (L : Nat → Bool) (a : Act) (w : World), RV.Held D WA R (fun γ L w => Below wr.heap.size wr w) Z γ L a w → a.tmps[16]? = some (.bool true) := fun γ L a w hH => (hH.rest 16 (by rw [← hD]; exact RV.dst_free (by kernel_rfl))).trans (by rw [← hZ]; rfl)
                      have K : ∀ j v w w', R j v w → R j v w' := by rw [hR]; intro j v w w' h; exact h
                      clear hD hWA hZ hR
                      refine RV.AllDo.cons 0 (RV.does_pure (fun γ v L w hl h => h) (fun γ L a w hH hl hA => by have e0 := E14 γ L a w hH; exact ⟨.slice (some ⟨bg, 0, none⟩) N N, by simp [execOp, go_sem, e0], (r0 _ _).mpr rfl⟩)) ?_
                      refine RV.AllDo.cons 1 (RV.does_pure (fun γ v L w hl h => h) (fun γ L a w hH hl hA => by have e0 := E15 γ L a w hH; exact ⟨.int .i64 (i : Int), by simp [execOp, go_sem, e0], (r1 _ _).mpr rfl⟩)) ?_
                      refine RV.AllDo.cons 2 (RV.does_pure (fun γ v L w hl h => h) (fun γ L a w hH hl hA => by have l0 : L 0 = true := hA ⟨0, .data⟩ (by simp) rfl; have e0 := hH.slot 0 116 d0 l0; have g0 := hH.holds 0 l0; rw [r0] at g0; rw [g0] at e0; have l1 : L 1 = true := hA ⟨1, .data⟩ (by simp) rfl; have e1 := hH.slot 1 117 d1 l1; have g1 := hH.holds 1 l1; rw [r1] at g1; rw [g1] at e1; exact ⟨.pointer (some ⟨bg, i, none⟩), by simp [execOp, go_sem, e0, e1, hit], (r2 _ _).mpr rfl⟩)) ?_
                      refine RV.AllDo.cons 3 (RV.does_pure (fun γ v L w hl h => h) (fun γ L a w hH hl hA => by have l0 : L 2 = true := hA ⟨2, .data⟩ (by simp) rfl; have e0 := hH.slot 2 118 d2 l0; have g0 := hH.holds 2 l0; rw [r2] at g0; rw [g0] at e0; have z09 := c_after hH.glob ci; exact ⟨.int .i64 (i : Int), by simp [execOp, go_sem, e0, z09], (r3 _ _).mpr rfl⟩)) ?_
                      refine RV.AllDo.cons 4 (RV.does_pure (fun γ v L w hl h => h) (fun γ L a w hH hl hA => by have e0 := E15 γ L a w hH; exact ⟨.int .i64 (i : Int), by simp [execOp, go_sem, e0], (r4 _ _).mpr rfl⟩)) ?_
                      refine RV.AllDo.cons 5 (RV.does_pure (fun γ v L w hl h => h) (fun γ L a w hH hl hA => by have l0 : L 3 = true := hA ⟨3, .data⟩ (by simp) rfl; have e0 := hH.slot 3 119 d3 l0; have g0 := hH.holds 3 l0; rw [r3] at g0; rw [g0] at e0; have l1 : L 4 = true := hA ⟨4, .data⟩ (by simp) rfl; have e1 := hH.slot 4 120 d4 l1; have g1 := hH.holds 4 l1; rw [r4] at g1; rw [g1] at e1; exact ⟨.bool false, by simp [execOp, go_sem, e0, e1], (r5 _ _).mpr rfl⟩)) ?_
                      refine RV.AllDo.cons 6 (RV.does_pure (fun γ v L w hl h => h) (fun γ L a w hH hl hA => by have l0 : L 5 = true := hA ⟨5, .data⟩ (by simp) rfl; have e0 := hH.slot 5 121 d5 l0; have g0 := hH.holds 5 l0; rw [r5] at g0; rw [g0] at e0; exact ⟨.bool false, by simp [execOp, go_sem, e0], (r6 _ _).mpr rfl⟩)) ?_
                      refine RV.AllDo.cons 7 (RV.does_guarded rfl d6 (fun v w h => by rw [r6] at h; exact h) (by simp) (RV.does_pure (fun γ v L w hl h => h) (fun γ L a w hH hl hA => by have e0 := E14 γ L a w hH; exact ⟨.slice (some ⟨bg, 0, none⟩) N N, by simp [execOp, go_sem, e0], (r7 _ _).mpr rfl⟩))) ?_
                      refine RV.AllDo.cons 8 (RV.does_guarded rfl d6 (fun v w h => by rw [r6] at h; exact h) (by simp) (RV.does_pure (fun γ v L w hl h => h) (fun γ L a w hH hl hA => by have e0 := E15 γ L a w hH; exact ⟨.int .i64 (i : Int), by simp [execOp, go_sem, e0], (r8 _ _).mpr rfl⟩))) ?_
                      refine RV.AllDo.cons 9 (RV.does_guarded rfl d6 (fun v w h => by rw [r6] at h; exact h) (by simp) (RV.does_pure (fun γ v L w hl h => h) (fun γ L a w hH hl hA => by have l0 : L 7 = true := hA ⟨7, .data⟩ (by simp) rfl; have e0 := hH.slot 7 123 d7 l0; have g0 := hH.holds 7 l0; rw [r7] at g0; rw [g0] at e0; have l1 : L 8 = true := hA ⟨8, .data⟩ (by simp) rfl; have e1 := hH.slot 8 124 d8 l1; have g1 := hH.holds 8 l1; rw [r8] at g1; rw [g1] at e1; exact ⟨.pointer (some ⟨bg, i, none⟩), by simp [execOp, go_sem, e0, e1, hit], (r9 _ _).mpr rfl⟩))) ?_
                      refine RV.AllDo.cons 10 (RV.does_guarded rfl d6 (fun v w h => by rw [r6] at h; exact h) (by simp) (RV.does_pure (fun γ v L w hl h => h) (fun γ L a w hH hl hA => by have l0 : L 9 = true := hA ⟨9, .data⟩ (by simp) rfl; have e0 := hH.slot 9 125 d9 l0; have g0 := hH.holds 9 l0; rw [r9] at g0; rw [g0] at e0; have z09 := c_after hH.glob ci; exact ⟨.int .i64 (i : Int), by simp [execOp, go_sem, e0, z09], (r10 _ _).mpr rfl⟩))) ?_
                      refine RV.AllDo.cons 11 (RV.does_guarded rfl d6 (fun v w h => by rw [r6] at h; exact h) (by simp) (RV.does_pure (fun γ v L w hl h => h) (fun γ L a w hH hl hA => by have l0 : L 10 = true := hA ⟨10, .data⟩ (by simp) rfl; have e0 := hH.slot 10 126 d10 l0; have g0 := hH.holds 10 l0; rw [r10] at g0; rw [g0] at e0; exact ⟨.bool false, by simp [execOp, go_sem, e0, q1], (r11 _ _).mpr rfl⟩))) ?_
                      refine RV.AllDo.cons 12 (RV.does_pure (fun γ v L w hl h => h) (fun γ L a w hH hl hA => by have l0 : L 6 = true := hA ⟨6, .data⟩ (by simp) rfl; have e0 := hH.slot 6 122 d6 l0; have g0 := hH.holds 6 l0; rw [r6] at g0; rw [g0] at e0; have l1 : L 11 = true := hA ⟨11, .data⟩ (by simp) rfl; have e1 := hH.slot 11 127 d11 l1; have g1 := hH.holds 11 l1; rw [r11] at g1; rw [g1] at e1; exact ⟨.bool false, by simp [execOp, go_sem, e0, e1], (r12 _ _).mpr rfl⟩)) ?_
                      refine RV.AllDo.cons 13 (RV.does_pure (fun γ v L w hl h => h) (fun γ L a w hH hl hA => by have l0 : L 12 = true := hA ⟨12, .data⟩ (by simp) rfl; have e0 := hH.slot 12 128 d12 l0; have g0 := hH.holds 12 l0; rw [r12] at g0; rw [g0] at e0; exact ⟨.bool false, by simp [execOp, go_sem, e0], (r13 _ _).mpr rfl⟩)) ?_
                      refine RV.AllDo.cons 14 (RV.does_guarded rfl d13 (fun v w h => by rw [r13] at h; exact h) (by simp) (RV.does_pure (fun γ v L w hl h => h) (fun γ L a w hH hl hA => by have e0 := E14 γ L a w hH; exact ⟨.slice (some ⟨bg, 0, none⟩) N N, by simp [execOp, go_sem, e0], (r14 _ _).mpr rfl⟩))) ?_
                      refine RV.AllDo.cons 15 (RV.does_guarded rfl d13 (fun v w h => by rw [r13] at h; exact h) (by simp) (RV.does_pure (fun γ v L w hl h => h) (fun γ L a w hH hl hA => by have e0 := E14 γ L a w hH; exact ⟨.slice (some ⟨bg, 0, none⟩) N N, by simp [execOp, go_sem, e0], (r15 _ _).mpr rfl⟩))) ?_
                      refine RV.AllDo.cons 16 (RV.does_guarded rfl d13 (fun v w h => by rw [r13] at h; exact h) (by simp) (RV.does_pure (fun γ v L w hl h => h) (fun γ L a w hH hl hA => by have e0 := E15 γ L a w hH; exact ⟨.int .i64 (i : Int), by simp [execOp, go_sem, e0], (r16 _ _).mpr rfl⟩))) ?_
                      refine RV.AllDo.cons 17 (RV.does_guarded rfl d13 (fun v w h => by rw [r13] at h; exact h) (by simp) (RV.does_pure (fun γ v L w hl h => h) (fun γ L a w hH hl hA => by have l0 : L 15 = true := hA ⟨15, .data⟩ (by simp) rfl; have e0 := hH.slot 15 131 d15 l0; have g0 := hH.holds 15 l0; rw [r15] at g0; rw [g0] at e0; have l1 : L 16 = true := hA ⟨16, .data⟩ (by simp) rfl; have e1 := hH.slot 16 132 d16 l1; have g1 := hH.holds 16 l1; rw [r16] at g1; rw [g1] at e1; exact ⟨.pointer (some ⟨bg, i, none⟩), by simp [execOp, go_sem, e0, e1, hit], (r17 _ _).mpr rfl⟩))) ?_
                      refine RV.AllDo.cons 18 (RV.does_guarded rfl d13 (fun v w h => by rw [r13] at h; exact h) (by simp) (RV.does_pure (fun γ v L w hl h => h) (fun γ L a w hH hl hA => by have l0 : L 17 = true := hA ⟨17, .data⟩ (by simp) rfl; have e0 := hH.slot 17 133 d17 l0; have g0 := hH.holds 17 l0; rw [r17] at g0; rw [g0] at e0; have z09 := c_after hH.glob ci; exact ⟨.int .i64 (i : Int), by simp [execOp, go_sem, e0, z09], (r18 _ _).mpr rfl⟩))) ?_
                      refine RV.AllDo.cons 19 (RV.does_guarded rfl d13 (fun v w h => by rw [r13] at h; exact h) (by simp) (RV.does_pure (fun γ v L w hl h => h) (fun γ L a w hH hl hA => by have l0 : L 14 = true := hA ⟨14, .data⟩ (by simp) rfl; have e0 := hH.slot 14 130 d14 l0; have g0 := hH.holds 14 l0; rw [r14] at g0; rw [g0] at e0; have l1 : L 18 = true := hA ⟨18, .data⟩ (by simp) rfl; have e1 := hH.slot 18 134 d18 l1; have g1 := hH.holds 18 l1; rw [r18] at g1; rw [g1] at e1; exact ⟨.pointer (some ⟨bg, i, none⟩), by simp [execOp, go_sem, e0, e1, hit], (r19 _ _).mpr rfl⟩))) ?_
                      refine RV.AllDo.cons 20 (RV.does_guarded rfl d13 (fun v w h => by rw [r13] at h; exact h) (by simp) (RV.does_pure (fun γ v L w hl h => h) (fun γ L a w hH hl hA => by have l0 : L 19 = true := hA ⟨19, .data⟩ (by simp) rfl; have e0 := hH.slot 19 135 d19 l0; have g0 := hH.holds 19 l0; rw [r19] at g0; rw [g0] at e0; have z09 := c_after hH.glob ci; exact ⟨.int .i64 (i : Int), by simp [execOp, go_sem, e0, z09], (r20 _ _).mpr rfl⟩))) ?_
                      refine RV.AllDo.cons 21 (RV.does_guarded rfl d13 (fun v w h => by rw [r13] at h; exact h) (by simp) (RV.does_pure (fun γ v L w hl h => h) (fun γ L a w hH hl hA => by have e0 := E14 γ L a w hH; exact ⟨.slice (some ⟨bg, 0, none⟩) N N, by simp [execOp, go_sem, e0], (r21 _ _).mpr rfl⟩))) ?_
                      refine RV.AllDo.cons 22 (RV.does_guarded rfl d13 (fun v w h => by rw [r13] at h; exact h) (by simp) (RV.does_pure (fun γ v L w hl h => h) (fun γ L a w hH hl hA => by have e0 := E15 γ L a w hH; exact ⟨.int .i64 (i : Int), by simp [execOp, go_sem, e0], (r22 _ _).mpr rfl⟩))) ?_
                      refine RV.AllDo.cons 23 (RV.does_guarded rfl d13 (fun v w h => by rw [r13] at h; exact h) (by simp) (RV.does_pure (fun γ v L w hl h => h) (fun γ L a w hH hl hA => by have l0 : L 21 = true := hA ⟨21, .data⟩ (by simp) rfl; have e0 := hH.slot 21 137 d21 l0; have g0 := hH.holds 21 l0; rw [r21] at g0; rw [g0] at e0; have l1 : L 22 = true := hA ⟨22, .data⟩ (by simp) rfl; have e1 := hH.slot 22 138 d22 l1; have g1 := hH.holds 22 l1; rw [r22] at g1; rw [g1] at e1; exact ⟨.pointer (some ⟨bg, i, none⟩), by simp [execOp, go_sem, e0, e1, hit], (r23 _ _).mpr rfl⟩))) ?_
                      refine RV.AllDo.cons 24 (RV.does_guarded rfl d13 (fun v w h => by rw [r13] at h; exact h) (by simp) (RV.does_pure (fun γ v L w hl h => h) (fun γ L a w hH hl hA => by have l0 : L 23 = true := hA ⟨23, .data⟩ (by simp) rfl; have e0 := hH.slot 23 139 d23 l0; have g0 := hH.holds 23 l0; rw [r23] at g0; rw [g0] at e0; have z09 := c_after hH.glob ci; exact ⟨.int .i64 (i : Int), by simp [execOp, go_sem, e0, z09], (r24 _ _).mpr rfl⟩))) ?_
                      refine RV.AllDo.cons 25 (RV.does_guarded rfl d13 (fun v w h => by rw [r13] at h; exact h) (by simp) (RV.does_pure (fun γ v L w hl h => h) (fun γ L a w hH hl hA => by have l0 : L 20 = true := hA ⟨20, .data⟩ (by simp) rfl; have e0 := hH.slot 20 136 d20 l0; have g0 := hH.holds 20 l0; rw [r20] at g0; rw [g0] at e0; have l1 : L 24 = true := hA ⟨24, .data⟩ (by simp) rfl; have e1 := hH.slot 24 140 d24 l1; have g1 := hH.holds 24 l1; rw [r24] at g1; rw [g1] at e1; exact ⟨.bool false, by simp [execOp, go_sem, e0, e1], (r25 _ _).mpr rfl⟩))) ?_
                      refine RV.AllDo.cons 26 (RV.does_pure (fun γ v L w hl h => h) (fun γ L a w hH hl hA => by have l0 : L 13 = true := hA ⟨13, .data⟩ (by simp) rfl; have e0 := hH.slot 13 129 d13 l0; have g0 := hH.holds 13 l0; rw [r13] at g0; rw [g0] at e0; have l1 : L 25 = true := hA ⟨25, .data⟩ (by simp) rfl; have e1 := hH.slot 25 141 d25 l1; have g1 := hH.holds 25 l1; rw [r25] at g1; rw [g1] at e1; exact ⟨.bool false, by simp [execOp, go_sem, e0, e1], (r26 _ _).mpr rfl⟩)) ?_
                      refine RV.AllDo.cons 27 (RV.does_pure (fun γ v L w hl h => h) (fun γ L a w hH hl hA => by have l0 : L 26 = true := hA ⟨26, .data⟩ (by simp) rfl; have e0 := hH.slot 26 142 d26 l0; have g0 := hH.holds 26 l0; rw [r26] at g0; rw [g0] at e0; exact ⟨.bool false, by simp [execOp, go_sem, e0], (r27 _ _).mpr rfl⟩)) ?_
                      refine RV.AllDo.cons 28 (RV.does_guarded rfl d27 (fun v w h => by rw [r27] at h; exact h) (by simp) (RV.does_pure (fun γ v L w hl h => h) (fun γ L a w hH hl hA => by have e0 := E16 γ L a w hH; exact ⟨.bool true, by simp [execOp, go_sem, e0], (r28 _ _).mpr rfl⟩))) ?_
                      refine RV.AllDo.cons 29 (RV.does_guarded rfl d27 (fun v w h => by rw [r27] at h; exact h) (by simp) (RV.does_pure (fun γ v L w hl h => h) (fun γ L a w hH hl hA => by have l0 : L 28 = true := hA ⟨28, .data⟩ (by simp) rfl; have e0 := hH.slot 28 144 d28 l0; have g0 := hH.holds 28 l0; rw [r28] at g0; rw [g0] at e0; exact ⟨.bool true, by simp [execOp, go_sem, e0], (r29 _ _).mpr rfl⟩))) ?_
                      refine RV.AllDo.cons 30 (RV.does_guarded rfl d29 (fun v w h => by rw [r29] at h; exact h) (by simp) (RV.does_pure (fun γ v L w hl h => h) (fun γ L a w hH hl hA => by have e0 := E14 γ L a w hH; exact ⟨.slice (some ⟨bg, 0, none⟩) N N, by simp [execOp, go_sem, e0], (r30 _ _).mpr rfl⟩))) ?_
                      refine RV.AllDo.cons 31 (RV.does_guarded rfl d29 (fun v w h => by rw [r29] at h; exact h) (by simp) (RV.does_pure (fun γ v L w hl h => h) (fun γ L a w hH hl hA => by have e0 := E15 γ L a w hH; exact ⟨.int .i64 (i : Int), by simp [execOp, go_sem, e0], (r31 _ _).mpr rfl⟩))) ?_
                      refine RV.AllDo.cons 32 (RV.does_guarded rfl d29 (fun v w h => by rw [r29] at h; exact h) (by simp) (RV.does_pure (fun γ v L w hl h => h) (fun γ L a w hH hl hA => by have l0 : L 30 = true := hA ⟨30, .data⟩ (by simp) rfl; have e0 := hH.slot 30 146 d30 l0; have g0 := hH.holds 30 l0; rw [r30] at g0; rw [g0] at e0; have l1 : L 31 = true := hA ⟨31, .data⟩ (by simp) rfl; have e1 := hH.slot 31 147 d31 l1; have g1 := hH.holds 31 l1; rw [r31] at g1; rw [g1] at e1; exact ⟨.pointer (some ⟨bg, i, none⟩), by simp [execOp, go_sem, e0, e1, hit], (r32 _ _).mpr rfl⟩))) ?_
                      refine RV.AllDo.cons 33 (RV.does_guarded rfl d29 (fun v w h => by rw [r29] at h; exact h) (by simp) (RV.does_pure (fun γ v L w hl h => h) (fun γ L a w hH hl hA => by have l0 : L 32 = true := hA ⟨32, .data⟩ (by simp) rfl; have e0 := hH.slot 32 148 d32 l0; have g0 := hH.holds 32 l0; rw [r32] at g0; rw [g0] at e0; have z09 := c_after hH.glob ci; exact ⟨.int .i64 (i : Int), by simp [execOp, go_sem, e0, z09], (r33 _ _).mpr rfl⟩))) ?_
                      refine RV.AllDo.cons 34 (RV.does_guarded rfl d29 (fun v w h => by rw [r29] at h; exact h) (by simp) (RV.does_pure (fun γ v L w hl h => h) (fun γ L a w hH hl hA => by have e0 := E15 γ L a w hH; exact ⟨.int .i64 (i : Int), by simp [execOp, go_sem, e0], (r34 _ _).mpr rfl⟩))) ?_
                      refine RV.AllDo.cons 35 (RV.does_guarded rfl d29 (fun v w h => by rw [r29] at h; exact h) (by simp) (RV.does_pure (fun γ v L w hl h => h) (fun γ L a w hH hl hA => by have l0 : L 33 = true := hA ⟨33, .data⟩ (by simp) rfl; have e0 := hH.slot 33 149 d33 l0; have g0 := hH.holds 33 l0; rw [r33] at g0; rw [g0] at e0; have l1 : L 34 = true := hA ⟨34, .data⟩ (by simp) rfl; have e1 := hH.slot 34 150 d34 l1; have g1 := hH.holds 34 l1; rw [r34] at g1; rw [g1] at e1; exact ⟨.bool false, by simp [execOp, go_sem, e0, e1], (r35 _ _).mpr rfl⟩))) ?_
                      refine RV.AllDo.cons 36 (RV.does_guarded rfl d29 (fun v w h => by rw [r29] at h; exact h) (by simp) (RV.does_pure (fun γ v L w hl h => h) (fun γ L a w hH hl hA => by have l0 : L 35 = true := hA ⟨35, .data⟩ (by simp) rfl; have e0 := hH.slot 35 151 d35 l0; have g0 := hH.holds 35 l0; rw [r35] at g0; rw [g0] at e0; exact ⟨.bool false, by simp [execOp, go_sem, e0], (r36 _ _).mpr rfl⟩))) ?_
                      refine RV.AllDo.cons 37 (RV.does_guarded rfl d36 (fun v w h => by rw [r36] at h; exact h) (by simp) (RV.does_pure (fun γ v L w hl h => h) (fun γ L a w hH hl hA => by have e0 := E14 γ L a w hH; exact ⟨.slice (some ⟨bg, 0, none⟩) N N, by simp [execOp, go_sem, e0], (r37 _ _).mpr rfl⟩))) ?_
                      refine RV.AllDo.cons 38 (RV.does_guarded rfl d36 (fun v w h => by rw [r36] at h; exact h) (by simp) (RV.does_pure (fun γ v L w hl h => h) (fun γ L a w hH hl hA => by have e0 := E15 γ L a w hH; exact ⟨.int .i64 (i : Int), by simp [execOp, go_sem, e0], (r38 _ _).mpr rfl⟩))) ?_
                      refine RV.AllDo.cons 39 (RV.does_guarded rfl d36 (fun v w h => by rw [r36] at h; exact h) (by simp) (RV.does_call (fun γ L a w hH hl hA => by have l0 : L 37 = true := hA ⟨37, .data⟩ (by simp) rfl; have e0 := hH.slot 37 153 d37 l0; have g0 := hH.holds 37 l0; rw [r37] at g0; rw [g0] at e0; have l1 : L 38 = true := hA ⟨38, .data⟩ (by simp) rfl; have e1 := hH.slot 38 154 d38 l1; have g1 := hH.holds 38 l1; rw [r38] at g1; rw [g1] at e1; exact ⟨13, #[.slice (some ⟨bg, 0, none⟩) N N, .int .i64 (i : Int)], by simp [go_sem, e0, e1], Calls.mono (HMC.out w hH.glob) (by rintro e w2 ⟨o9, c9, rfl, hb⟩; exact ⟨_, rfl, (r39 _ _).mpr ⟨o9, c9, rfl⟩, fun j v _ h => K j v _ _ h, hH.glob.trans (hb.mono hH.glob.size)⟩)⟩))) ?_
                      refine RV.AllDo.cons 40 (RV.does_guarded rfl d36 (fun v w h => by rw [r36] at h; exact h) (by simp) (RV.does_pure (fun γ v L w hl h => h) (fun γ L a w hH hl hA => by have l0 : L 39 = true := hA ⟨39, .data⟩ (by simp) rfl; have e0 := hH.slot 39 155 d39 l0; have g0 := hH.holds 39 l0; rw [r39] at g0; obtain ⟨o9, c9, t9⟩ := g0; rw [t9] at e0; exact ⟨.int .i64 1, by simp [go_sem, e0], (r40 _ _).mpr rfl⟩))) ?_
                      refine RV.AllDo.cons 41 (RV.does_guarded rfl d36 (fun v w h => by rw [r36] at h; exact h) (by simp) (RV.does_pure (fun γ v L w hl h => h) (fun γ L a w hH hl hA => by have l0 : L 40 = true := hA ⟨40, .data⟩ (by simp) rfl; have e0 := hH.slot 40 156 d40 l0; have g0 := hH.holds 40 l0; rw [r40] at g0; rw [g0] at e0; exact ⟨.bool false, by simp [execOp, go_sem, e0], (r41 _ _).mpr rfl⟩))) ?_
                      refine RV.AllDo.cons 42 (RV.does_guarded rfl d29 (fun v w h => by rw [r29] at h; exact h) (by simp) (RV.does_pure (fun γ v L w hl h => h) (fun γ L a w hH hl hA => by have l0 : L 36 = true := hA ⟨36, .data⟩ (by simp) rfl; have e0 := hH.slot 36 152 d36 l0; have g0 := hH.holds 36 l0; rw [r36] at g0; rw [g0] at e0; have l1 : L 41 = true := hA ⟨41, .data⟩ (by simp) rfl; have e1 := hH.slot 41 157 d41 l1; have g1 := hH.holds 41 l1; rw [r41] at g1; rw [g1] at e1; exact ⟨.bool false, by simp [execOp, go_sem, e0, e1], (r42 _ _).mpr rfl⟩))) ?_
                      refine RV.AllDo.cons 43 (RV.does_guarded rfl d27 (fun v w h => by rw [r27] at h; exact h) (by simp) (RV.does_pure (fun γ v L w hl h => h) (fun γ L a w hH hl hA => by have l0 : L 29 = true := hA ⟨29, .data⟩ (by simp) rfl; have e0 := hH.slot 29 145 d29 l0; have g0 := hH.holds 29 l0; rw [r29] at g0; rw [g0] at e0; have l1 : L 42 = true := hA ⟨42, .data⟩ (by simp) rfl; have e1 := hH.slot 42 158 d42 l1; have g1 := hH.holds 42 l1; rw [r42] at g1; rw [g1] at e1; exact ⟨.bool false, by simp [execOp, go_sem, e0, e1], (r43 _ _).mpr rfl⟩))) ?_
                      refine RV.AllDo.cons 44 (RV.does_pure (fun γ v L w hl h => h) (fun γ L a w hH hl hA => by have l0 : L 27 = true := hA ⟨27, .data⟩ (by simp) rfl; have e0 := hH.slot 27 143 d27 l0; have g0 := hH.holds 27 l0; rw [r27] at g0; rw [g0] at e0; have l1 : L 43 = true := hA ⟨43, .data⟩ (by simp) rfl; have e1 := hH.slot 43 159 d43 l1; have g1 := hH.holds 43 l1; rw [r43] at g1; rw [g1] at e1; exact ⟨.bool false, by simp [execOp, go_sem, e0, e1], (r44 _ _).mpr rfl⟩)) ?_
                      exact RV.AllDo.nil
                    · intro γ a5 w5 L9 hL hLo hH
                      have ha := RV.held_act hH hL (by kernel_rfl) (by kernel_rfl)
                      have y44 : γ 44 = .bool false := hH.holds 44 (hL 44 (by decide))
                      have hb5 := hH.glob
                      rw [ha]
                      clear ha hH hL hLo
                      simp only [RV.putAll, Act.put, List.setIfInBounds_toArray, List.set_cons_zero, List.set_cons_succ, Nat.zero_add, Nat.reduceAdd, y44]
                      have HB5 : Hid _ := b_step HB.out hb5
                      clear hb5 y44
                      go_wp2_with (fail)
                      go_roundg (N - (i + 1))
                      case measure => have := HN.out; omega
                      case rel => exact ⟨i + 1, by go_num, by omega, rfl, HB5.out⟩
              · have e : i = N := by omega
                subst e
                have HT8 : Hid _ := HT7.out.step HB.out
                have HGC8 : Hid (∀ j, j < i → wr.cell? ⟨bg, j, none⟩ = some (.int .i64 (grpF i L2 P j : Int))) := fun j hj => c_after HB.out (HGC7.out j hj)
                clear HT7 HGC7 HB HRG7 HLOW
                go_wp2_with (fail)
                have hNi : i ≤ 50 := hn1
                generalize i = N at *
                go_loopg [17] P.length (fun gn s17 wr => ∃ q : Nat, s17 = .int .i64 (q : Int) ∧ q ≤ P.length ∧ gn = P.length - q ∧ Hid (LTwo w0 wr (.slice op_ P.length cp) u9 P M) ∧ Hid (∀ j, j < N → wr.cell? ⟨bg, j, none⟩ = some (.int .i64 (grpF N L2 P j : Int))))
                case atStart => exact ⟨0, rfl, Nat.zero_le _, rfl, HT8, HGC8⟩
                case round =>
                  clear HT8 HGC8
                  obtain ⟨q, rfl, hq, hgn, HT8, HGC8⟩ := hrel
                  have HN2 : Hid _ := hgn
                  clear hgn
                  by_cases hqt : q < P.length
                  · obtain ⟨_, _, e9, _, _, hpc⟩ := HT8.out.one.rd.form
                    cases e9
                    obtain ⟨gb, ob, x, y, rfl, hz, x0, y0⟩ := hpc q hqt
                    have hxy := HPM.out _ (List.mem_of_getElem? hz)
                    obtain ⟨a, rfl⟩ : ∃ a : Nat, x = (a : Int) := ⟨x.toNat, by have := hxy.1.1; omega⟩
                    obtain ⟨b, rfl⟩ : ∃ b : Nat, y = (b : Int) := ⟨y.toNat, by have := hxy.2.1; omega⟩
                    have ha : a < N := by have := hxy.1.2; omega
                    have hb : b < N := by have := hxy.2.2; omega
                    have hwl : ∀ c, (c < L2.length → ∃ g off, o2 = some ⟨g, off, none⟩ ∧ wr.cell? ⟨g, off + c, none⟩ = some (.bool (L2[c]?.getD false))) ∧ (¬ c < L2.length → L2[c]?.getD false = false) := fun c => by
                      refine ⟨fun h => ?_, fun h => by rw [List.getElem?_eq_none (by omega)]; rfl⟩
                      obtain ⟨g, off, z, e, hz, hc⟩ := HWC.out c h
                      exact ⟨g, off, e, by rw [hz]; exact c_after HT8.out.one.below hc⟩
                    have HWA : Hid _ := hwl a
                    have HWB : Hid _ := hwl b
                    have HES : Hid (L2[a]?.getD false = false → L2[b]?.getD false = false → grpF N L2 P a = grpF N L2 P b) := fun h h' => ends_same hz ha hb h h'
                    have ca := HGC8.out a ha
                    have cb := HGC8.out b hb
                    clear hwl hz hpc hxy
                    generalize L2[a]?.getD false = wa at *
                    generalize L2[b]?.getD false = wb at *
                    go_upto_region 29 with fail
                    go_cut [20] from 177 to 198 (fun s20 wx => s20 = .bool (wa || wb) ∧ wx = wr)
                    case first =>
                      clear HES ca cb x0 y0
                      by_cases hal : a < L2.length
                      · obtain ⟨g9, off9, rfl, cw⟩ := HWA.out.1 hal
                        by_cases hbl : b < L2.length
                        · obtain ⟨g8, off8, e8, cv⟩ := HWB.out.1 hbl
                          cases e8
                          clear HWA HWB HWC HWL HGC8 HT8 HPM HPL
                          cases wa
                          all_goals
                            go_wp2_with (fail)
                            go_meet
                            case rel => exact ⟨rfl, rfl⟩
                        · have e := HWB.out.2 hbl
                          subst e
                          clear HWA HWB HWC HWL HGC8 HT8 HPM HPL
                          cases wa
                          all_goals
                            go_wp2_with (fail)
                            go_meet
                            case rel => exact ⟨rfl, rfl⟩
                      · have e := HWA.out.2 hal
                        subst e
                        by_cases hbl : b < L2.length
                        · obtain ⟨g8, off8, rfl, cv⟩ := HWB.out.1 hbl
                          clear HWA HWB HWC HWL HGC8 HT8 HPM HPL
                          go_wp2_with (fail)
                          go_meet
                          case rel => exact ⟨rfl, rfl⟩
                        · have e := HWB.out.2 hbl
                          subst e
                          clear HWA HWB HWC HWL HGC8 HT8 HPM HPL
                          go_wp2_with (fail)
                          go_meet
                          case rel => exact ⟨rfl, rfl⟩
                    case rest =>
                      obtain ⟨rfl, hwc⟩ := hcut
                      obtain rfl : wr = wc := hwc.symm
                      clear hwc HWA HWB
                      have HT9 : Hid _ := HT8.out.step (Below.refl _ wr).drew
                      have HGC9 : Hid (∀ j, j < N → wr.drew.cell? ⟨bg, j, none⟩ = some (.int .i64 (grpF N L2 P j : Int))) := HGC8.out
                      clear HWC HWL HPM HPL HGC8 HT8
                      cases hww : (wa || wb) with
                      | true =>
                        clear HES hww
                        generalize grpF N L2 P a = ga at ca
                        generalize grpF N L2 P b = gb2 at cb
                        go_wp2_with (fail)
                        go_region
                        go_wp2_with (fail)
                        go_roundg (P.length - (q + 1))
                        case measure => have := HN2.out; omega
                        case rel => exact ⟨q + 1, by go_num, by omega, rfl, HT9.out, HGC9.out⟩
                      | false =>
                        have hww2 := Bool.or_eq_false_iff.1 hww
                        have e := HES.out hww2.1 hww2.2
                        rw [e] at ca
                        clear HES hww hww2 e
                        generalize grpF N L2 P b = gb2 at ca cb
                        have e5 : ((gb2 : Int) == (gb2 : Int)) = true := beq_self_eq_true _
                        go_wp2_with (fail)
                        go_region
                        go_wp2_with (fail)
                        go_roundg (P.length - (q + 1))
                        case measure => have := HN2.out; omega
                        case rel => exact ⟨q + 1, by go_num, by omega, rfl, HT9.out, HGC9.out⟩
                  · have e : q = P.length := by omega
                    subst e
                    go_wp2_with (fail)
                    go_ret
                    exact ⟨rfl, HT8.out.one.below⟩

/-! ### The row's step, after the guide's template -/
set_option maxRecDepth 100000 in
theorem lifted (os : Os) (started : os.Started) (H : Type) (enc : TypeId × Value → H) :
    ReturnsInHanded {} Try.checked os 4 .any (Rows.islandSameSpec.pre6 enc Try.prog Try.f4 Rows.islandSameRow.domain false) (Rows.islandSameSpec.post enc Try.prog Try.f4 false true false false) := by
  refine returnsInHanded_of_change (C := Try.checked) own started (by kernel_rfl) Try.func4
    (ChangeSpec.witness6 (enc := enc) (C := Try.checked) false ⟨#[], #[.int .i64 0, .slice none 0 0, .slice none 0 0], []⟩ 8 (by kernel_rfl) (by kernel_rfl) (by kernel_rfl) (by kernel_rfl)) ?_
  intro W base args ds gs before hval0 hW hcnd _
  have hval : ∀ (j : Nat) t v, Try.f4.params[j]? = some t → args[j]? = some v → Value.okWide Try.prog W .any base t v := hval0
  have hW' := hW
  obtain ⟨p, q, hA0, hV, rfl, hfz, hnd⟩ := hW
  have hA : DataW.TrodAll enc Try.prog W 0 (fun _ => true) true Try.f4.params.toList args.toList ds p := hA0
  rw [Try.params4] at hA hval
  obtain ⟨v0, vs0, d0, ds0, p0, q0, hargs, rfl, rfl, h0, r0⟩ := trodAll_cons hA
  obtain ⟨v1, vs1, d1, ds1, p1, q1, rfl, rfl, rfl, h1, r1⟩ := trodAll_cons r0
  obtain ⟨v2, vs2, d2, ds2, p2, q2, rfl, rfl, rfl, h2, r2⟩ := trodAll_cons r1
  obtain ⟨rfl, rfl, rfl⟩ := trodAll_nil r2
  obtain rfl : args = #[v0, v1, v2] := by cases args; simp_all
  obtain ⟨rfl, rfl⟩ := trodVars_none hV
  obtain ⟨a0, rfl, rfl, rfl, w0⟩ := open_int Try.underlying3 (hval 0 3 v0 rfl rfl) h0
  have b0 := bounds_i64 w0
  have k1 := h1
  have lt1 : ∀ x ∈ p1, x.block < W.heap.size := by obtain ⟨m, hm⟩ := k1; exact DataW.trod_lt m _ _ _ hm
  obtain ⟨o1, L1, c1, rfl, hL1, hb1⟩ := open_links17 (hval 1 22 v1 rfl rfl) h1
  have k2 := h2
  have lt2 : ∀ x ∈ p2, x.block < W.heap.size := by obtain ⟨m, hm⟩ := k2; exact DataW.trod_lt m _ _ _ hm
  obtain ⟨o2, L2, c2, rfl, hL2⟩ := open_bools17 (hval 2 23 v2 rfl rfl) h2
  clear hA0 hval0
  refine (walk a0 o1 L1 c1 o2 L2 c2 W (by omega) hL1 hb1 hL2).mono fun e W' ⟨he, bel⟩ => ?_
  subst he
  exact ⟨_, rfl, _, _, _, [], _, [], hW', trodAll_mk1 (shut_bool Try.underlying4 _), (trodAll_cons_mk (shut_int Try.underlying3 w0) (trodAll_cons_mk (Below.trod laidOut (by kernel_rfl) (of_decide_eq_true (by kernel_rfl)) k1 bel lt1) (trodAll_cons_mk (Below.trod laidOut (by kernel_rfl) (of_decide_eq_true (by kernel_rfl)) k2 bel lt2) trodAll_mk0))), rfl, bel.frame _, fun h => by cases h⟩

theorem over : Rows.islandSameRow.holds Try.pinned (OpenSpec.ofChange Rows.islandSameSpec) :=
  OpenClaim.holds_of_wide 4 Try.f4 rfl rfl rfl rfl rfl rfl rfl ⟨rfl, rfl, rfl, rfl, rfl⟩ rfl rfl rfl rfl rfl (by kernel_rfl) Try.func4 (by kernel_rfl)
    (of_decide_eq_true (by kernel_rfl)) (by unfold Func.isWrapper; first | (rw [if_pos (by decide +kernel)]; kernel_rfl) | (rw [if_neg (by decide +kernel)]; exact ⟨rfl, rfl⟩))
    (fun os started H enc _ => lifted os started H enc)

end islandSame

theorem islandSame_holds : Rows.IslandSameSaid := islandSame.over
#print axioms islandSame_holds
end Go.Proofs.Ytdbiikllcplmgaa
