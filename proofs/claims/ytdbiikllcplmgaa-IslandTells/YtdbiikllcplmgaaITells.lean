/- Groups, their members, and who may rest, are the document's: true of all counts, links, walls, quiet steps and needs. -/
import Derived.Test.YtdbiikllcplmgaaIsI
import Derived.Test.YtdbiikllcplmgaaIsG
import Derived.ProofKit
namespace Go.Proofs.Ytdbiikllcplmgaa
namespace islandTells
open Go.ChangeShapes Go.WideShapes Go.ChangeAt Go.RowKit Go.Shelf
set_option linter.unusedVariables false

theorem own : ownKnob Try.prog.godebug = none := by kernel_rfl
theorem laidOut : laidOutB Try.prog = true := by kernel_rfl

set_option maxHeartbeats 4000000 in
set_option maxRecDepth 100000 in
theorem walk (a0 : Int) (o1 : Option Addr) (L1 : List (Int × Int)) (c1 : Nat) (o2 : Option Addr) (L2 : List Bool) (c2 : Nat) (o3 : Option Addr) (L3 : List Int) (c3 : Nat) (a4 : Int) (w0 : World) (ba0 : -9223372036854775808 ≤ a0 ∧ a0 ≤ 9223372036854775807) (hL1 : RdL w0 (.slice o1 L1.length c1) L1) (hb1 : ∀ l ∈ L1, (-9223372036854775808 ≤ l.1 ∧ l.1 ≤ 9223372036854775807) ∧ (-9223372036854775808 ≤ l.2 ∧ l.2 ≤ 9223372036854775807)) (hL2 : RdB w0 (.slice o2 L2.length c2) L2) (hL3 : RdI w0 (.slice o3 L3.length c3) L3) (hb3 : ∀ z ∈ L3, -9223372036854775808 ≤ z ∧ z ≤ 9223372036854775807) (ba4 : -9223372036854775808 ≤ a4 ∧ a4 ≤ 9223372036854775807) :
    Calls Try.prog 3 #[.int .i64 a0, .slice o1 L1.length c1, .slice o2 L2.length c2, .slice o3 L3.length c3, .int .i64 a4] w0 fun e W => e = .returned (.bool true) ∧ Below w0.heap.size w0 W := by
  have HLL : Hid _ := hL1
  have HWL : Hid _ := hL2
  have HQ3 : Hid _ := hL3
  obtain ⟨_, _, e1, hc1, hcm1, _⟩ := hL1.form
  cases e1
  obtain ⟨_, _, e2, hc2, hcm2, _⟩ := hL2.form
  cases e2
  obtain ⟨_, _, e3, hc3, hcm3, hqc⟩ := hL3.form
  cases e3
  have HA : Hid _ := awake_any w0
  obtain ⟨m, hm⟩ : ∃ m, m = min L3.length 40 := ⟨_, rfl⟩
  have hmc : m ≤ c3 := by omega
  have hm40 : m ≤ 40 := by omega
  have HMI : Hid ((L3.length < 40 ∧ m = L3.length) ∨ (L3.length = 40 ∧ m = 40) ∨ (40 < L3.length ∧ m = 40)) := by show _ ∨ _; omega
  obtain ⟨Q, hQ⟩ : ∃ Q, Q = L3.take m := ⟨_, rfl⟩
  have hQl : Q.length = m := by rw [hQ, List.length_take]; omega
  have HRQ : Hid (RdI w0 (.slice o3 m c3) Q) := by
    refine ⟨o3, c3, by rw [hQl], by omega, hcm3, fun k hk => ?_⟩
    obtain ⟨g, off, z, e, hz, hc⟩ := hqc k (by omega)
    exact ⟨g, off, z, e, by rw [hQ, List.getElem?_take, if_pos (by omega)]; exact hz, hc⟩
  have HQB : Hid (∀ z ∈ Q, -9223372036854775808 ≤ z ∧ z ≤ 9223372036854775807) := fun z hz => hb3 z (by rw [hQ] at hz; exact List.mem_of_mem_take hz)
  clear hL1 hL2 hL3 hb1 hb3 hqc hm hQ
  have hnn : ∃ nn : Int, ((60 < a0 ∧ nn = 60) ∨ (¬ 60 < a0 ∧ nn = a0)) := by
    by_cases h : 60 < a0
    · exact ⟨60, Or.inl ⟨h, rfl⟩⟩
    · exact ⟨a0, Or.inr ⟨h, rfl⟩⟩
  obtain ⟨nn, hnn⟩ := hnn
  by_cases hlen : 200 < L1.length
  · clear HMI HRQ HQB HLL HWL HQ3
    rcases hnn with ⟨hnn, rfl⟩ | ⟨hnn, rfl⟩
    all_goals
      go_enter Try.func3, Try.ntmps3
      go_wp2_with (fail)
      refine Calls.mono HA.out ?_
      rintro e W1 ⟨rfl, b1⟩
      have B1 : Hid _ := b1
      clear b1 HA
      go_wp2_with (fail)
      go_ret
      exact ⟨rfl, B1.out⟩
  · have HC1 : Hid (∀ w, Below w0.heap.size w0 w → Calls Try.prog 8 #[.int .i64 nn, .slice o1 L1.length c1, .slice o2 L2.length c2] w fun e W => ∃ b, e = .returned (.slice (some ⟨b, 0, none⟩) (cnt nn) (cnt nn)) ∧ RdI W (.slice (some ⟨b, 0, none⟩) (cnt nn) (cnt nn)) (grp (cnt nn) L2 L1) ∧ Below w.heap.size w W) := fun w hw =>
      Calls.mono (groups_at nn _ _ L1 L2 w (HLL.out.below hw) (HWL.out.below hw) rfl) (by rintro e W ⟨b, h1, _, h2, h3⟩; exact ⟨b, h1, h2, h3⟩)
    have HC2 : Hid (∀ w, Below w0.heap.size w0 w → Calls Try.prog 9 #[.int .i64 nn, .slice o1 L1.length c1, .slice o2 L2.length c2] w fun e W => ∃ u, e = .returned u ∧ RdI W u (grp (cnt nn) L2 L1) ∧ Below w.heap.size w W) := fun w hw =>
      rgroups_any nn _ _ L1 L2 w (HLL.out.below hw) (HWL.out.below hw) (by omega)
    have hcn : cnt nn ≤ 4096 := cnt_le nn
    have hbl : (grp (cnt nn) L2 L1).length ≤ 4096 := by rw [grp_length]; exact hcn
    have HBB : Hid (∀ z ∈ grp (cnt nn) L2 L1, -9223372036854775808 ≤ z ∧ z ≤ 9223372036854775807) := fun z hz => by
      unfold grp at hz
      obtain ⟨i, hi, rfl⟩ := List.mem_map.1 hz
      have h1 := (grp_is (cnt nn) L2 L1).low.le i
      have h2 := List.mem_range.1 hi
      omega
    clear HLL HWL
    generalize grp (cnt nn) L2 L1 = B at *
    generalize cnt nn = N at *
    go_enter Try.func3, Try.ntmps3
    go_wp2_with (fail)
    refine Calls.mono HA.out ?_
    rintro e W1 ⟨rfl, b1⟩
    have B1 : Hid _ := b1
    clear b1 HA
    go_upto_if 20 with fail
    go_cut [0] from 20 to 20 (fun s0 wx => s0 = .int .i64 nn ∧ wx = W1)
    case first =>
      clear HC1 HC2 HBB HRQ HQB HMI
      rcases hnn with ⟨hnn, rfl⟩ | ⟨hnn, rfl⟩
      all_goals
        go_wp2_with (fail)
        go_meet
        case rel => exact ⟨rfl, rfl⟩
    case rest =>
      obtain ⟨rfl, hwc⟩ := hcut
      obtain rfl : W1 = wc := hwc.symm
      clear hwc hnn
      go_wp2_with (fail)
      refine Calls.mono (HC1.out W1 B1.out) ?_
      rintro e W2 ⟨bg, rfl, rg, b2⟩
      have B2 : Hid _ := b_step B1.out b2
      have HRG : Hid _ := rg
      clear HC1 B1 rg b2
      go_wp2_with (fail)
      refine Calls.mono (HC2.out W2 B2.out) ?_
      rintro e W3 ⟨vb, rfl, rb, b3⟩
      have B3 : Hid _ := b_step B2.out b3
      have hnb := numbers_any _ vb _ _ W3 (HRG.out.below b3) rb (by omega) (by omega)
      rw [decide_eq_true rfl] at hnb
      have HNB : Hid _ := hnb
      have HRB3 : Hid _ := rb
      obtain ⟨ob, cb, e9, hcb, hcbm, _⟩ := rb.form
      subst e9
      clear HC2 HRG B2 rb b3 hnb
      go_wp2_with (fail)
      refine Calls.mono HNB.out ?_
      rintro e WG ⟨rfl, b4⟩
      have HBG : Hid _ := b_step B3.out b4
      have HBW : Hid (Below w0.heap.size w0 WG) := HBG.out
      have HRB : Hid _ := HRB3.out.below b4
      clear HNB b4 B3 HRB3 HBG
      go_upto_region 10 with fail
      refine RV.region_by2 (fun j v w => match j with | 0 => v = .slice ob B.length cb | 1 => True | 2 => v = .slice o3 L3.length c3 | 3 => v = .slice o3 L3.length c3 | 4 => v = .int .i64 (L3.length : Int) | 5 => v = .int .i64 (m : Int) | 6 => v = .slice o3 m c3 | 7 => True | 8 => True | _ => True) (fun γ L w => AT 1 7 8 w0 WG B Q γ L w) (by kernel_rfl) (by kernel_rfl) (by kernel_rfl) (by kernel_rfl) ?_ ?_ ?_
      · exact AT.start rfl rfl rfl (Below.refl _ WG).drew
      · generalize hD : dstOf _ = D
        generalize hWA : waitsFor _ = WA
        generalize hZ : Act.mk _ _ = Z
        obtain ⟨R, hR⟩ : ∃ R : Nat → Value → World → Prop, R = (fun j v w => match j with | 0 => v = .slice ob B.length cb | 1 => True | 2 => v = .slice o3 L3.length c3 | 3 => v = .slice o3 L3.length c3 | 4 => v = .int .i64 (L3.length : Int) | 5 => v = .int .i64 (m : Int) | 6 => v = .slice o3 m c3 | 7 => True | 8 => True | _ => True) := ⟨_, rfl⟩
        rw [← hR]
        have d0 : D 0 = some 41 := by rw [← hD]; rfl
        have d1 : D 1 = some 42 := by rw [← hD]; rfl
        have d2 : D 2 = some 43 := by rw [← hD]; rfl
        have d3 : D 3 = some 44 := by rw [← hD]; rfl
        have d4 : D 4 = some 45 := by rw [← hD]; rfl
        have d5 : D 5 = some 46 := by rw [← hD]; rfl
        have d6 : D 6 = some 47 := by rw [← hD]; rfl
        have d7 : D 7 = some 48 := by rw [← hD]; rfl
        have d8 : D 8 = some 14 := by rw [← hD]; rfl
        have r0 : ∀ v w, R 0 v w = (v = .slice ob B.length cb) := fun v w => by rw [hR]; rfl
        have r1 : ∀ v w, R 1 v w = (True) := fun v w => by rw [hR]; rfl
        have r2 : ∀ v w, R 2 v w = (v = .slice o3 L3.length c3) := fun v w => by rw [hR]; rfl
        have r3 : ∀ v w, R 3 v w = (v = .slice o3 L3.length c3) := fun v w => by rw [hR]; rfl
        have r4 : ∀ v w, R 4 v w = (v = .int .i64 (L3.length : Int)) := fun v w => by rw [hR]; rfl
        have r5 : ∀ v w, R 5 v w = (v = .int .i64 (m : Int)) := fun v w => by rw [hR]; rfl
        have r6 : ∀ v w, R 6 v w = (v = .slice o3 m c3) := fun v w => by rw [hR]; rfl
        have r7 : ∀ v w, R 7 v w = (True) := fun v w => by rw [hR]; rfl
        have r8 : ∀ v w, R 8 v w = (True) := fun v w => by rw [hR]; rfl
        have E3 : ∀ (γ : Nat → Value) (L : Nat → Bool) (a : Act) (w : World), RV.Held D WA R (fun γ L w => AT 1 7 8 w0 WG B Q γ L w) Z γ L a w → a.tmps[3]? = some (.slice o3 L3.length c3) := fun γ L a w hH => (hH.rest 3 (by rw [← hD]; exact RV.dst_free (by kernel_rfl))).trans (by rw [← hZ]; rfl)
        have E13 : ∀ (γ : Nat → Value) (L : Nat → Bool) (a : Act) (w : World), RV.Held D WA R (fun γ L w => AT 1 7 8 w0 WG B Q γ L w) Z γ L a w → a.tmps[13]? = some (.slice ob B.length cb) := fun γ L a w hH => (hH.rest 13 (by rw [← hD]; exact RV.dst_free (by kernel_rfl))).trans (by rw [← hZ]; rfl)
        have K : ∀ j v w w', R j v w → R j v w' := by rw [hR]; intro j v w w' h; exact h
        have A_1_0 : WA 1 0 := by rw [← hWA]; exact ⟨_, rfl, ⟨0, .data⟩, by simp, rfl, rfl⟩
        have A_7_1 : WA 7 1 := by rw [← hWA]; exact ⟨_, rfl, ⟨1, .data⟩, by simp, rfl, rfl⟩
        have A_6_2 : WA 6 2 := by rw [← hWA]; exact ⟨_, rfl, ⟨2, .data⟩, by simp, rfl, rfl⟩
        have A_4_3 : WA 4 3 := by rw [← hWA]; exact ⟨_, rfl, ⟨3, .data⟩, by simp, rfl, rfl⟩
        have A_5_4 : WA 5 4 := by rw [← hWA]; exact ⟨_, rfl, ⟨4, .data⟩, by simp, rfl, rfl⟩
        have A_6_5 : WA 6 5 := by rw [← hWA]; exact ⟨_, rfl, ⟨5, .data⟩, by simp, rfl, rfl⟩
        have A_7_6 : WA 7 6 := by rw [← hWA]; exact ⟨_, rfl, ⟨6, .data⟩, by simp, rfl, rfl⟩
        have A_8_7 : WA 8 7 := by rw [← hWA]; exact ⟨_, rfl, ⟨7, .data⟩, by simp, rfl, rfl⟩
        clear hD hWA hZ hR
        refine RV.AllDo.cons 0 (RV.does_pure (fun γ v L w hl h => AT.other h _ (by decide) (by decide) (by decide)) (fun γ L a w hH hl hA => by have e0 := E13 γ L a w hH; exact ⟨.slice ob B.length cb, by simp [execOp, go_sem, e0], (r0 _ _).mpr rfl⟩)) ?_
        refine RV.AllDo.cons 1 (RV.does_step (fun γ L a w hH hl hA => by have l0 : L 0 = true := hA ⟨0, .data⟩ (by simp) rfl; have e0 := hH.slot 0 41 d0 l0; have g0 := hH.holds 0 l0; rw [r0] at g0; rw [g0] at e0; have hq7 : L 7 = false := RV.not_yet hH A_7_1 hl; have hz8 : L 8 = false := RV.not_yet hH A_8_7 hq7; have y1 := AT.early hH.glob hl hq7; obtain ⟨v9, w9, t1, t2, t3⟩ := exec_appI (w := w) (a := a) (.const (.slice none 0 0)) (.tmp 41) w0.heap.size (.slice none 0 0) [] rfl (World.ownsRow_nil _ _ _ _) (.slice ob B.length cb) B (by simp [go_sem, e0]) (HRB.out.below y1) (by simp; omega) (Nat.le_trans HBW.out.size y1.size); exact ⟨v9, w9, t1 _ rfl rfl, (r1 _ _).mpr trivial, fun j v _ h => K j v _ _ h, AT.one hq7 hz8 (by decide) (by decide) ⟨t2, (b_step HBW.out y1).grown t3 (b_step HBW.out y1).size (fun k e => by cases e)⟩⟩)) ?_
        refine RV.AllDo.cons 2 (RV.does_pure (fun γ v L w hl h => AT.other h _ (by decide) (by decide) (by decide)) (fun γ L a w hH hl hA => by have e0 := E3 γ L a w hH; exact ⟨.slice o3 L3.length c3, by simp [execOp, go_sem, e0], (r2 _ _).mpr rfl⟩)) ?_
        refine RV.AllDo.cons 3 (RV.does_pure (fun γ v L w hl h => AT.other h _ (by decide) (by decide) (by decide)) (fun γ L a w hH hl hA => by have e0 := E3 γ L a w hH; exact ⟨.slice o3 L3.length c3, by simp [execOp, go_sem, e0], (r3 _ _).mpr rfl⟩)) ?_
        refine RV.AllDo.cons 4 (RV.does_pure (fun γ v L w hl h => AT.other h _ (by decide) (by decide) (by decide)) (fun γ L a w hH hl hA => by have l0 : L 3 = true := hA ⟨3, .data⟩ (by simp) rfl; have e0 := hH.slot 3 44 d3 l0; have g0 := hH.holds 3 l0; rw [r3] at g0; rw [g0] at e0; exact ⟨.int .i64 (L3.length : Int), by simp [go_sem, e0], (r4 _ _).mpr rfl⟩)) ?_
        refine RV.AllDo.cons 5 (RV.does_step (fun γ L a w hH hl hA => by have l0 : L 4 = true := hA ⟨4, .data⟩ (by simp) rfl; have e0 := hH.slot 4 45 d4 l0; have g0 := hH.holds 4 l0; rw [r4] at g0; rw [g0] at e0; rcases HMI.out with ⟨h1, h2⟩ | ⟨h1, h2⟩ | ⟨h1, h2⟩ <;> exact ⟨.int .i64 (m : Int), w, by first | (simp [go_sem, e0, h1, h2]; done) | (simp [go_sem, e0, h2]; omega), (r5 _ _).mpr rfl, fun j v _ h => h, AT.other hH.glob _ (by decide) (by decide) (by decide)⟩)) ?_
        refine RV.AllDo.cons 6 (RV.does_pure (fun γ v L w hl h => AT.other h _ (by decide) (by decide) (by decide)) (fun γ L a w hH hl hA => by have l0 : L 2 = true := hA ⟨2, .data⟩ (by simp) rfl; have e0 := hH.slot 2 43 d2 l0; have g0 := hH.holds 2 l0; rw [r2] at g0; rw [g0] at e0; have l1 : L 5 = true := hA ⟨5, .data⟩ (by simp) rfl; have e1 := hH.slot 5 46 d5 l1; have g1 := hH.holds 5 l1; rw [r5] at g1; rw [g1] at e1; exact ⟨.slice o3 m c3, by simp [execOp, go_sem, e0, e1, hmc], (r6 _ _).mpr rfl⟩)) ?_
        refine RV.AllDo.cons 7 (RV.does_step (fun γ L a w hH hl hA => by have l0 : L 1 = true := hA ⟨1, .data⟩ (by simp) rfl; have e0 := hH.slot 1 42 d1 l0; have g0 := hH.holds 1 l0; rw [r1] at g0; have l1 : L 6 = true := hA ⟨6, .data⟩ (by simp) rfl; have e1 := hH.slot 6 47 d6 l1; have g1 := hH.holds 6 l1; rw [r6] at g1; rw [g1] at e1; have hz8 : L 8 = false := RV.not_yet hH A_8_7 hl; have y1 := AT.mid hH.glob l0 hl; obtain ⟨v9, w9, t1, t2, t3⟩ := exec_appI (w := w) (a := a) (.tmp 42) (.tmp 47) w0.heap.size (γ 1) B (by simp [go_sem, e0]) y1.row (.slice o3 m c3) Q (by simp [go_sem, e1]) (HRQ.out.below y1.below) (by omega) y1.below.size; exact ⟨v9, w9, t1 _ rfl rfl, (r7 _ _).mpr trivial, fun j v _ h => K j v _ _ h, AT.two hz8 (by decide) (y1.apps t2 t3)⟩)) ?_
        refine RV.AllDo.cons 8 (RV.does_step (fun γ L a w hH hl hA => by have l0 : L 7 = true := hA ⟨7, .data⟩ (by simp) rfl; have e0 := hH.slot 7 48 d7 l0; have g0 := hH.holds 7 l0; rw [r7] at g0; exact ⟨γ 7, w, by simp [execOp, go_sem, e0], (r8 _ _).mpr trivial, fun j v _ h => h, AT.set hH.glob (by decide) (by decide)⟩)) ?_
        exact RV.AllDo.nil
      · intro γ a5 w5 L9 hL hLo hH
        have ha := RV.held_act hH hL (by kernel_rfl) (by kernel_rfl)
        obtain ⟨y3, y1⟩ := AT.done hH.glob (hL 7 (by decide)) (hL 8 (by decide))
        rw [ha]
        clear ha hH hL hLo
        simp only [RV.putAll, Act.put, List.setIfInBounds_toArray, List.set_cons_zero, List.set_cons_succ, Nat.zero_add, Nat.reduceAdd]
        rw [y3]
        have HGO : Hid _ := y1
        clear y1 y3
        generalize γ 7 = ug at *
        obtain ⟨oz, cz, e9, hcz, hczm, _⟩ := (RdI.of_row HGO.out.row).form
        subst e9
        have hzl : (B ++ Q).length ≤ 4136 := by rw [List.length_append]; omega
        have HZB : Hid (∀ z ∈ B ++ Q, -9223372036854775808 ≤ z ∧ z ≤ 9223372036854775807) := fun z hz => by
          rcases List.mem_append.1 hz with h | h
          · exact HBB.out z h
          · exact HQB.out z h
        have HRZ : Hid _ := RdI.of_row HGO.out.row
        have HBZ : Hid _ := HGO.out.below
        clear HGO HBB HQB HRB HRQ HBW HMI
        generalize B ++ Q = Z at *
        have C1 : Hid _ := rest_any _ _ Z L3 a4 w5 HRZ.out (HQ3.out.below HBZ.out) (by omega) HZB.out
        go_wp2_with (fail)
        refine Calls.mono C1.out ?_
        clear C1
        rintro e V1 ⟨ux, rfl, rx, bx⟩
        have HBV : Hid _ := b_step HBZ.out bx
        have HRZ1 : Hid _ := HRZ.out.below bx
        have C2 : Hid _ := rrest_any _ _ Z L3 a4 V1 HRZ1.out (HQ3.out.below HBV.out) (by omega)
        have HRX : Hid _ := rx
        clear rx bx HBZ HRZ
        go_wp2_with (fail)
        refine Calls.mono C2.out ?_
        clear C2
        rintro e V2 ⟨uy, rfl, ry, by2⟩
        have HBV2 : Hid _ := b_step HBV.out by2
        have HRZ2 : Hid _ := HRZ1.out.below by2
        have HRX2 : Hid _ := HRX.out.below by2
        have HRY2 : Hid _ := ry
        have C3 : Hid _ := members_any _ Z a4 V2 HRZ2.out (by omega)
        clear ry by2 HBV HRZ1 HRX
        obtain ⟨ox, cx, e9, hcx, hcxm, _⟩ := HRX2.out.form
        subst e9
        obtain ⟨oy, cy, e9, hcy, hcym, _⟩ := HRY2.out.form
        subst e9
        have hrl := rests_length Z L3 a4
        go_wp2_with (fail)
        refine Calls.mono C3.out ?_
        clear C3
        rintro e V3 ⟨um, rfl, hm3⟩
        have HM3 : Hid _ := hm3
        have C4 : Hid _ := rmembers_any _ Z a4 V3 (HRZ2.out.below hm3.below) (by omega)
        clear hm3
        go_wp2_with (fail)
        refine Calls.mono C4.out ?_
        clear C4
        rintro e V4 ⟨un, rfl, hn4⟩
        have hml := memb_length Z a4 Z.length
        have hnb := numbers_any um un _ _ V4 ((RdI.of_row HM3.out.row).below hn4.below) (RdI.of_row hn4.row) (by omega) (by omega)
        rw [decide_eq_true rfl] at hnb
        have C5 : Hid _ := hnb
        have HB4 : Hid _ := b_step HM3.out.below hn4.below
        clear hnb hn4 HM3
        go_wp2_with (fail)
        refine Calls.mono C5.out ?_
        clear C5
        rintro e V5 ⟨rfl, b5⟩
        have HB25 : Hid _ := b_step HB4.out b5
        have HB5 : Hid _ := b_step HBV2.out HB25.out
        have HRX5 : Hid _ := HRX2.out.below HB25.out
        have HRY5 : Hid _ := HRY2.out.below HB25.out
        clear b5 HB4 HBV2 HRX2 HRY2 HRZ2 hml
        generalize rests Z L3 a4 = RS at *
        go_wp2_with (fail)
        go_loopg [17] RS.length (fun gn s17 wr => ∃ i : Nat, s17 = .int .i64 (i : Int) ∧ i ≤ RS.length ∧ gn = RS.length - i ∧ Hid (Below V5.heap.size V5 wr))
        case atStart => exact ⟨0, rfl, Nat.zero_le _, rfl, Below.refl _ _⟩
        case round =>
          obtain ⟨i, rfl, hi, hgn, HB⟩ := hrel
          have HN : Hid _ := hgn
          clear hgn
          by_cases hit : i < RS.length
          · obtain ⟨_, _, e9, _, _, h1⟩ := HRX5.out.form
            cases e9
            obtain ⟨_, _, e9, _, _, h2⟩ := HRY5.out.form
            cases e9
            obtain ⟨g1, q1, z1, rfl, hz1, x0⟩ := h1 i hit
            obtain ⟨g2, q2, z2, rfl, hz2, y0⟩ := h2 i hit
            obtain rfl : z1 = z2 := Option.some.inj (hz1.symm.trans hz2)
            have x0 := c_after HB.out x0
            have y0 := c_after HB.out y0
            clear h1 h2 hz1 hz2 HRX5 HRY5
            go_wp2_with (fail)
            go_region
            go_wp2_with (fail)
            go_roundg (RS.length - (i + 1))
            case measure => have := HN.out; omega
            case rel => exact ⟨i + 1, by go_num, by omega, rfl, HB.out.drew⟩
          · have e : i = RS.length := by omega
            go_wp2_with (fail)
            go_ret
            exact ⟨rfl, b_step HB5.out HB.out⟩

/-! ### The row's step, after the guide's template -/
set_option maxRecDepth 100000 in
theorem lifted (os : Os) (started : os.Started) (H : Type) (enc : TypeId × Value → H) :
    ReturnsInHanded {} Try.checked os 3 .any (Rows.islandTellsSpec.pre6 enc Try.prog Try.f3 Rows.islandTellsRow.domain false) (Rows.islandTellsSpec.post enc Try.prog Try.f3 false true false false) := by
  refine returnsInHanded_of_change (C := Try.checked) own started (by kernel_rfl) Try.func3
    (ChangeSpec.witness6 (enc := enc) (C := Try.checked) false ⟨#[], #[.int .i64 0, .slice none 0 0, .slice none 0 0, .slice none 0 0, .int .i64 0], []⟩ 8 (by kernel_rfl) (by kernel_rfl) (by kernel_rfl) (by kernel_rfl)) ?_
  intro W base args ds gs before hval0 hW hcnd _
  have hval : ∀ (j : Nat) t v, Try.f3.params[j]? = some t → args[j]? = some v → Value.okWide Try.prog W .any base t v := hval0
  have hW' := hW
  obtain ⟨p, q, hA0, hV, rfl, hfz, hnd⟩ := hW
  have hA : DataW.TrodAll enc Try.prog W 0 (fun _ => true) true Try.f3.params.toList args.toList ds p := hA0
  rw [Try.params3] at hA hval
  obtain ⟨v0, vs0, d0, ds0, p0, q0, hargs, rfl, rfl, h0, r0⟩ := trodAll_cons hA
  obtain ⟨v1, vs1, d1, ds1, p1, q1, rfl, rfl, rfl, h1, r1⟩ := trodAll_cons r0
  obtain ⟨v2, vs2, d2, ds2, p2, q2, rfl, rfl, rfl, h2, r2⟩ := trodAll_cons r1
  obtain ⟨v3, vs3, d3, ds3, p3, q3, rfl, rfl, rfl, h3, r3⟩ := trodAll_cons r2
  obtain ⟨v4, vs4, d4, ds4, p4, q4, rfl, rfl, rfl, h4, r4⟩ := trodAll_cons r3
  obtain ⟨rfl, rfl, rfl⟩ := trodAll_nil r4
  obtain rfl : args = #[v0, v1, v2, v3, v4] := by cases args; simp_all
  obtain ⟨rfl, rfl⟩ := trodVars_none hV
  obtain ⟨a0, rfl, rfl, rfl, w0⟩ := open_int Try.underlying3 (hval 0 3 v0 rfl rfl) h0
  have b0 := bounds_i64 w0
  have k1 := h1
  have lt1 : ∀ x ∈ p1, x.block < W.heap.size := by obtain ⟨m, hm⟩ := k1; exact DataW.trod_lt m _ _ _ hm
  obtain ⟨o1, L1, c1, rfl, hL1, hb1⟩ := open_links17 (hval 1 22 v1 rfl rfl) h1
  have k2 := h2
  have lt2 : ∀ x ∈ p2, x.block < W.heap.size := by obtain ⟨m, hm⟩ := k2; exact DataW.trod_lt m _ _ _ hm
  obtain ⟨o2, L2, c2, rfl, hL2⟩ := open_bools17 (hval 2 23 v2 rfl rfl) h2
  have k3 := h3
  have lt3 : ∀ x ∈ p3, x.block < W.heap.size := by obtain ⟨m, hm⟩ := k3; exact DataW.trod_lt m _ _ _ hm
  obtain ⟨o3, L3, c3, rfl, hL3, hb3⟩ := open_ints17 (hval 3 24 v3 rfl rfl) h3
  obtain ⟨a4, rfl, rfl, rfl, w4⟩ := open_int Try.underlying3 (hval 4 3 v4 rfl rfl) h4
  have b4 := bounds_i64 w4
  clear hA0 hval0
  refine (walk a0 o1 L1 c1 o2 L2 c2 o3 L3 c3 a4 W (by omega) hL1 hb1 hL2 hL3 hb3 (by omega)).mono fun e W' ⟨he, bel⟩ => ?_
  subst he
  exact ⟨_, rfl, _, _, _, [], _, [], hW', trodAll_mk1 (shut_bool Try.underlying4 _), (trodAll_cons_mk (shut_int Try.underlying3 w0) (trodAll_cons_mk (Below.trod laidOut (by kernel_rfl) (of_decide_eq_true (by kernel_rfl)) k1 bel lt1) (trodAll_cons_mk (Below.trod laidOut (by kernel_rfl) (of_decide_eq_true (by kernel_rfl)) k2 bel lt2) (trodAll_cons_mk (Below.trod laidOut (by kernel_rfl) (of_decide_eq_true (by kernel_rfl)) k3 bel lt3) (trodAll_cons_mk (shut_int Try.underlying3 w4) trodAll_mk0))))), rfl, bel.frame _, fun h => by cases h⟩

theorem over : Rows.islandTellsRow.holds Try.pinned (OpenSpec.ofChange Rows.islandTellsSpec) :=
  OpenClaim.holds_of_wide 3 Try.f3 rfl rfl rfl rfl rfl rfl rfl ⟨rfl, rfl, rfl, rfl, rfl⟩ rfl rfl rfl rfl rfl (by kernel_rfl) Try.func3 (by kernel_rfl)
    (of_decide_eq_true (by kernel_rfl)) (by unfold Func.isWrapper; first | (rw [if_pos (by decide +kernel)]; kernel_rfl) | (rw [if_neg (by decide +kernel)]; exact ⟨rfl, rfl⟩))
    (fun os started H enc _ => lifted os started H enc)

end islandTells

theorem islandTells_holds : Rows.IslandTellsSaid := islandTells.over
#print axioms islandTells_holds
end Go.Proofs.Ytdbiikllcplmgaa
