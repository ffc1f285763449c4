/- EventDiffs: whoever does what a difference tells with the old set has the new one; and it is the document's: true of any pairs. -/
import Derived.Test.YtbbmjfaflcbimaaEvR
import Derived.ProofKit
namespace Go.Proofs.Ytbbmjfaflcbimaa
namespace eventDiffs
open Go.ChangeShapes Go.WideShapes Go.ChangeAt Go.RowKit Go.Shelf
set_option linter.unusedVariables false

theorem own : ownKnob Try.prog.godebug = none := by kernel_rfl
theorem laidOut : laidOutB Try.prog = true := by kernel_rfl

set_option maxHeartbeats 4000000 in
set_option maxRecDepth 100000 in
theorem walk (o0 : Option Addr) (L0 : List (Pr)) (c0 : Nat) (o1 : Option Addr) (L1 : List (Pr)) (c1 : Nat) (w0 : World) (hL0 : Lies w0 (.slice o0 L0.length c0) L0) (hL1 : Lies w0 (.slice o1 L1.length c1) L1) :
    Calls Try.prog 5 #[.slice o0 L0.length c0, .slice o1 L1.length c1] w0 fun e W => e = .returned (.bool true) ∧ Below w0.heap.size w0 W := by
  have HA : Hid _ := awake19_any w0
  have HLA : Hid _ := hL0
  have HLB : Hid _ := hL1
  obtain ⟨_, _, e1, hc1, hcm1, _⟩ := hL0.form
  cases e1
  obtain ⟨_, _, e2, hc2, hcm2, _⟩ := hL1.form
  cases e2
  clear hL0 hL1
  go_enter Try.func5, Try.ntmps5
  go_wp2_with (fail)
  refine Calls.mono HA.out ?_
  clear HA
  rintro e W1 ⟨rfl, b1⟩
  have B1 : Hid _ := b1
  clear b1
  go_wp2_with (fail)
  refine Calls.mono (new_yes 512 w0.heap.size W1 (by omega) (by omega)) ?_
  rintro e W2 ⟨ss, rfl, hs1, hs2, hb2⟩
  have H2 : Hid (_ ∧ _) := And.intro hs1 hs2
  have B2 : Hid _ := hb2
  clear hs1 hs2 hb2
  go_wp2_with (fail)
  refine Calls.mono (new_yes 512 w0.heap.size W2 (by omega) (by omega)) ?_
  rintro e W3 ⟨tt, rfl, hs1, hs2, hb2⟩
  have H3 : Hid (_ ∧ _) := And.intro hs1 hs2
  have B3 : Hid _ := hb2
  clear hs1 hs2 hb2
  go_wp2_with (fail)
  refine Calls.mono (rnew_yes 512 w0.heap.size W3 (by omega) (by omega)) ?_
  rintro e W4 ⟨rr, rfl, hs1, hs2, hb2⟩
  have H4 : Hid (_ ∧ _) := And.intro hs1 hs2
  have B4 : Hid _ := hb2
  clear hs1 hs2 hb2
  go_wp2_with (fail)
  refine Calls.mono (rnew_yes 512 w0.heap.size W4 (by omega) (by omega)) ?_
  rintro e W5 ⟨qq, rfl, hs1, hs2, hb2⟩
  have HQ : Hid (QD w0 W5 ss tt rr qq [] [] [] []) := by
    obtain ⟨a1, a2⟩ := H2.out
    obtain ⟨a3, a4⟩ := H3.out
    obtain ⟨a5, a6⟩ := H4.out
    have l2 := a2.lt
    have l3 := a4.lt
    have l4 := a6.lt
    have s1 := B1.out.size
    have s2 := B2.out.size
    have s3 := B3.out.size
    have s4 := B4.out.size
    exact ⟨nov, nov, nov, nov, ⟨((a2.below B3.out).below B4.out).below hb2, (a4.below B4.out).below hb2, a6.below hb2, hs2, z_step (z_step (z_step (z_step B1.out B2.out) B3.out) B4.out) hb2, by omega, by omega, by omega, by omega, off_nov (by omega), off_nov (by omega), off_nov (by omega), off_nov (by omega), off_nov (by omega), off_nov (by omega)⟩⟩
  clear hs1 hs2 hb2 H2 H3 H4 B1 B2 B3 B4
  go_upto_block 0 with fail
  go_cut [14] from 55 to 76 (fun s14 wx => ∃ X : List Pr, Hid ((QD w0 wx ss tt rr qq X X [] []) ∧ (∀ p ∈ X, p.a < p.b) ∧ X.length ≤ 200))
  case first =>
    go_wp2_with (fail)
    go_loopg [14] 200 (fun gm s wr => ∃ (k : Nat) (X : List Pr), s = .int .i64 (k : Int) ∧ k ≤ 200 ∧ gm = 200 - k ∧ Hid ((QD w0 wr ss tt rr qq X X [] []) ∧ (∀ p ∈ X, p.a < p.b) ∧ X.length ≤ k))
    case atStart => exact ⟨0, [], rfl, by omega, rfl, HQ.out, by simp, by simp⟩
    case round =>
      clear HQ
      obtain ⟨k, X, rfl, hk, hgm, HX⟩ := hrel
      have HM : Hid _ := hgm
      clear hgm
      by_cases hgo : k < L0.length ∧ k < 200
      · obtain ⟨h1, h2⟩ := hgo
        obtain ⟨o9, c9, e9, _, _, hrow⟩ := HLA.out.form
        obtain ⟨g, off, e8, x0, x1⟩ := hrow k h1
        injection e9 with e9 e91 e92
        clear e91 e92
        rw [e8] at e9
        subst e9
        have x0 := z_after HX.out.1.below x0
        have x1 := z_after HX.out.1.below x1
        obtain ⟨p, hp⟩ : ∃ p, pt L0 k = p := ⟨_, rfl⟩
        rw [hp] at x0 x1
        clear hrow e8 hp
        have HP1 : Hid _ := HX.out.1.puts p
        have HB0 : Hid _ := HX.out.1.below
        have HXX : Hid _ := HX.out.2
        have hX512 : X.length < 512 := by have := HX.out.2.2; omega
        obtain ⟨pa, pb⟩ := p
        dsimp only at x0 x1 HP1
        clear HX
        go_wp2_with (fail)
        refine Calls.mono HP1.out ?_
        rintro e W8 ⟨rfl, hq⟩
        have HQ8 : Hid _ := hq
        have HP2 : Hid _ := hq.putr ⟨pa, pb⟩
        dsimp only at HP2
        have y0 : W8.cell? ⟨g, off + k * 2, none⟩ = some (.int .i64 pa) := by
          obtain ⟨o9, c9, e9, _, _, hrow⟩ := HLA.out.form
          obtain ⟨g', off', e8, z0, z1⟩ := hrow k h1
          injection e9 with e9 e91 e92
          rw [e8] at e9
          injection e9 with e9
          injection e9 with e91 e92
          subst e91; subst e92
          have t0 := z_after HB0.out z0
          rw [x0] at t0
          injection t0 with t0
          rw [t0]
          exact z_after hq.below z0
        have y1 : W8.cell? ⟨g, off + k * 2 + 1, none⟩ = some (.int .i64 pb) := by
          obtain ⟨o9, c9, e9, _, _, hrow⟩ := HLA.out.form
          obtain ⟨g', off', e8, z0, z1⟩ := hrow k h1
          injection e9 with e9 e91 e92
          rw [e8] at e9
          injection e9 with e9
          injection e9 with e91 e92
          subst e91; subst e92
          have t0 := z_after HB0.out z1
          rw [x1] at t0
          injection t0 with t0
          rw [t0]
          exact z_after hq.below z1
        clear hq x0 x1 HP1 HQ8 HB0
        go_wp2_with (fail)
        refine Calls.mono HP2.out ?_
        rintro e W9 ⟨rfl, hq⟩
        have HQ9 : Hid _ := hq
        clear hq HP2 y0 y1
        go_wp2_with (fail)
        go_roundg (200 - (k + 1))
        case measure => have := HM.out; omega
        case rel =>
          refine ⟨k + 1, putL 512 X ⟨pa, pb⟩, by go_num, by omega, rfl, HQ9.out, fun p hp => ?_, ?_⟩
          · rcases (mem_putR hX512).1 hp with h | h
            · exact HXX.out.1 p h
            · rw [h.1]; exact h.2
          · have := putR_len 512 X ⟨pa, pb⟩; have := HXX.out.2; omega
      · have HXE : Hid _ := HX.out
        clear HX
        by_cases h1 : k < L0.length
        all_goals
          have h2 : k < L0.length → ¬ k < 200 := fun a b => hgo ⟨a, b⟩
          first | (have h3 : ¬ k < 200 := h2 h1) | skip
          clear h2 hgo HM
          go_wp2_with (fail)
          go_meet
          case rel => exact ⟨X, HXE.out.1, HXE.out.2.1, by have := HXE.out.2.2; omega⟩
  case rest =>
    clear HQ HLA
    obtain ⟨A, HAQ⟩ := hcut
    obtain ⟨w6, rfl⟩ : ∃ x, x = wc := ⟨_, rfl⟩
    have HQ : Hid (QD w0 w6 ss tt rr qq A A [] []) := HAQ.out.1
    go_upto_block 2 with fail
    go_cut [15] from 77 to 98 (fun s15 wx => ∃ X : List Pr, Hid ((QD w0 wx ss tt rr qq A A X X) ∧ (∀ p ∈ X, p.a < p.b) ∧ X.length ≤ 200))
    case first =>
      go_wp2_with (fail)
      go_loopg [15] 200 (fun gm s wr => ∃ (k : Nat) (X : List Pr), s = .int .i64 (k : Int) ∧ k ≤ 200 ∧ gm = 200 - k ∧ Hid ((QD w0 wr ss tt rr qq A A X X) ∧ (∀ p ∈ X, p.a < p.b) ∧ X.length ≤ k))
      case atStart => exact ⟨0, [], rfl, by omega, rfl, HQ.out, by simp, by simp⟩
      case round =>
        clear HQ
        obtain ⟨k, X, rfl, hk, hgm, HX⟩ := hrel
        have HM : Hid _ := hgm
        clear hgm
        by_cases hgo : k < L1.length ∧ k < 200
        · obtain ⟨h1, h2⟩ := hgo
          obtain ⟨o9, c9, e9, _, _, hrow⟩ := HLB.out.form
          obtain ⟨g, off, e8, x0, x1⟩ := hrow k h1
          injection e9 with e9 e91 e92
          clear e91 e92
          rw [e8] at e9
          subst e9
          have x0 := z_after HX.out.1.below x0
          have x1 := z_after HX.out.1.below x1
          obtain ⟨p, hp⟩ : ∃ p, pt L1 k = p := ⟨_, rfl⟩
          rw [hp] at x0 x1
          clear hrow e8 hp
          have HP1 : Hid _ := HX.out.1.putt p
          have HB0 : Hid _ := HX.out.1.below
          have HXX : Hid _ := HX.out.2
          have hX512 : X.length < 512 := by have := HX.out.2.2; omega
          obtain ⟨pa, pb⟩ := p
          dsimp only at x0 x1 HP1
          clear HX
          go_wp2_with (fail)
          refine Calls.mono HP1.out ?_
          rintro e W8 ⟨rfl, hq⟩
          have HQ8 : Hid _ := hq
          have HP2 : Hid _ := hq.putq ⟨pa, pb⟩
          dsimp only at HP2
          have y0 : W8.cell? ⟨g, off + k * 2, none⟩ = some (.int .i64 pa) := by
            obtain ⟨o9, c9, e9, _, _, hrow⟩ := HLB.out.form
            obtain ⟨g', off', e8, z0, z1⟩ := hrow k h1
            injection e9 with e9 e91 e92
            rw [e8] at e9
            injection e9 with e9
            injection e9 with e91 e92
            subst e91; subst e92
            have t0 := z_after HB0.out z0
            rw [x0] at t0
            injection t0 with t0
            rw [t0]
            exact z_after hq.below z0
          have y1 : W8.cell? ⟨g, off + k * 2 + 1, none⟩ = some (.int .i64 pb) := by
            obtain ⟨o9, c9, e9, _, _, hrow⟩ := HLB.out.form
            obtain ⟨g', off', e8, z0, z1⟩ := hrow k h1
            injection e9 with e9 e91 e92
            rw [e8] at e9
            injection e9 with e9
            injection e9 with e91 e92
            subst e91; subst e92
            have t0 := z_after HB0.out z1
            rw [x1] at t0
            injection t0 with t0
            rw [t0]
            exact z_after hq.below z1
          clear hq x0 x1 HP1 HQ8 HB0
          go_wp2_with (fail)
          refine Calls.mono HP2.out ?_
          rintro e W9 ⟨rfl, hq⟩
          have HQ9 : Hid _ := hq
          clear hq HP2 y0 y1
          go_wp2_with (fail)
          go_roundg (200 - (k + 1))
          case measure => have := HM.out; omega
          case rel =>
            refine ⟨k + 1, putL 512 X ⟨pa, pb⟩, by go_num, by omega, rfl, HQ9.out, fun p hp => ?_, ?_⟩
            · rcases (mem_putR hX512).1 hp with h | h
              · exact HXX.out.1 p h
              · rw [h.1]; exact h.2
            · have := putR_len 512 X ⟨pa, pb⟩; have := HXX.out.2; omega
        · have HXE : Hid _ := HX.out
          clear HX
          by_cases h1 : k < L1.length
          all_goals
            have h2 : k < L1.length → ¬ k < 200 := fun a b => hgo ⟨a, b⟩
            first | (have h3 : ¬ k < 200 := h2 h1) | skip
            clear h2 hgo HM
            go_wp2_with (fail)
            go_meet
            case rel => exact ⟨X, HXE.out.1, HXE.out.2.1, by have := HXE.out.2.2; omega⟩
    case rest =>
      clear HQ HLB
      obtain ⟨B, HBQ⟩ := hcut
      obtain ⟨w7, rfl⟩ : ∃ x, x = wc := ⟨_, rfl⟩
      have HQ : Hid (QD w0 w7 ss tt rr qq A A B B) := HBQ.out.1
      have HOK : Hid ((∀ p ∈ B, p.a < p.b) ∧ A.length ≤ 200 ∧ B.length ≤ 200) := ⟨HBQ.out.2.1, HAQ.out.2.2, HBQ.out.2.2⟩
      clear HAQ HBQ
      have hAl : A.length ≤ 4096 := by have := HOK.out.2.1; omega
      have hBl : B.length ≤ 4096 := by have := HOK.out.2.2; omega
      obtain ⟨X, hX⟩ : ∃ X, minus B (some A) = X := ⟨_, rfl⟩
      obtain ⟨Y, hY⟩ : ∃ Y, minus A (some B) = Y := ⟨_, rfl⟩
      have hXl : X.length ≤ 4096 := by have := minus_length B (some A); rw [hX] at this; omega
      have hYl : Y.length ≤ 4096 := by have := minus_length A (some B); rw [hY] at this; omega
      have HXY : Hid (minus B (some A) = X ∧ minus A (some B) = Y) := ⟨hX, hY⟩
      have HB1 : Hid _ := HQ.out.bys
      have HSA : Hid _ := HQ.out.sorted.1
      rw [hX, hY] at HB1
      clear hX hY
      go_wp2_with (fail)
      refine Calls.mono (diff19_any (some ⟨ss, 0, none⟩) (some ⟨tt, 0, none⟩) X Y w7 HB1.out.2.1 HB1.out.1 hXl hYl) ?_
      rintro e W8 ⟨u8, rfl, hu, hb⟩
      obtain ⟨T, hT⟩ : ∃ T, tellP 1 X ++ tellP 2 Y = T := ⟨_, rfl⟩
      rw [hT] at hu
      have HTT : Hid _ := hT
      have HF : Hid _ := FD.new HQ.out hb hu
      obtain ⟨o8, c8, rfl, _, hTm⟩ := hu.len
      have HTN : Hid (T.length = X.length + Y.length) := by show _ = _; rw [← hT, List.length_append, tellP_length, tellP_length]
      clear hu hb HB1 HQ hT
      go_wp2_with (fail)
      have HR1 : Hid _ := HF.out.qd.rbys
      rw [HXY.out.1, HXY.out.2] at HR1
      refine Calls.mono (rdiff19_any (some ⟨rr, 0, none⟩) (some ⟨qq, 0, none⟩) X Y W8 (Or.inr ⟨⟨_, rfl⟩, HR1.out.2.1⟩) (Or.inr ⟨⟨_, rfl⟩, HR1.out.1⟩) hXl hYl) ?_
      rintro e W9 ⟨u9, rfl, hu, hb⟩
      have HF : Hid _ := HF.out.step hb
      rw [HTT.out] at hu
      have HV : Hid _ := hu
      obtain ⟨o9, c9, rfl, _, _⟩ := hu.len
      clear hu hb HR1
      go_wp2_with (fail)
      refine Calls.mono (events_same _ _ (T) _ (by have h := (HF.out.own).lies; first | exact h | (rw [List.length_append] at h; exact h)) (by have h := (HV.out).lies; first | exact h | (rw [List.length_append] at h; exact h))) ?_
      rintro e W10 ⟨rfl, hb⟩
      have HF : Hid _ := HF.out.step hb
      clear hb
      go_wp2_with (fail)
      refine Calls.mono (diff19_any (some ⟨ss, 0, none⟩) (none : Option Addr) [] A _ (by_nil _ _) (HF.out.qd.bys.2.2.1) (by first | exact hXl | exact hYl | exact hAl | exact hBl | simp) (by first | exact hXl | exact hYl | exact hAl | exact hBl | simp)) ?_
      rintro e W11 ⟨u11, rfl, hu, hb⟩
      have HF : Hid _ := HF.out.step hb
      have HU : Hid _ := hu
      obtain ⟨o11, c11, rfl, _, _⟩ := hu.len
      clear hu hb
      go_wp2_with (fail)
      refine Calls.mono (rdiff19_any (some ⟨rr, 0, none⟩) (none : Option Addr) [] A _ (Or.inl ⟨rfl, rfl⟩) (Or.inr ⟨⟨_, rfl⟩, HF.out.qd.rbys.2.2.1⟩) (by first | exact hXl | exact hYl | exact hAl | exact hBl | simp) (by first | exact hXl | exact hYl | exact hAl | exact hBl | simp)) ?_
      rintro e W12 ⟨u12, rfl, hu, hb⟩
      have HF : Hid _ := HF.out.step hb
      have HU : Hid _ := HU.out.below hb
      have HV : Hid _ := hu
      obtain ⟨o12, c12, rfl, _, _⟩ := hu.len
      clear hu hb
      go_wp2_with (fail)
      refine Calls.mono (events_same _ _ (tellP 1 [] ++ tellP 2 A) _ (by have h := (HU.out).lies; first | exact h | (rw [List.length_append] at h; exact h)) (by have h := (HV.out).lies; first | exact h | (rw [List.length_append] at h; exact h))) ?_
      rintro e W13 ⟨rfl, hb⟩
      have HF : Hid _ := HF.out.step hb
      clear hb
      go_wp2_with (fail)
      refine Calls.mono (diff19_any (none : Option Addr) (some ⟨tt, 0, none⟩) B [] _ (HF.out.qd.bys.2.2.2) (by_nil _ _) (by first | exact hXl | exact hYl | exact hAl | exact hBl | simp) (by first | exact hXl | exact hYl | exact hAl | exact hBl | simp)) ?_
      rintro e W14 ⟨u14, rfl, hu, hb⟩
      have HF : Hid _ := HF.out.step hb
      have HU : Hid _ := hu
      obtain ⟨o14, c14, rfl, _, _⟩ := hu.len
      clear hu hb
      go_wp2_with (fail)
      refine Calls.mono (rdiff19_any (none : Option Addr) (some ⟨qq, 0, none⟩) B [] _ (Or.inr ⟨⟨_, rfl⟩, HF.out.qd.rbys.2.2.2⟩) (Or.inl ⟨rfl, rfl⟩) (by first | exact hXl | exact hYl | exact hAl | exact hBl | simp) (by first | exact hXl | exact hYl | exact hAl | exact hBl | simp)) ?_
      rintro e W15 ⟨u15, rfl, hu, hb⟩
      have HF : Hid _ := HF.out.step hb
      have HU : Hid _ := HU.out.below hb
      have HV : Hid _ := hu
      obtain ⟨o15, c15, rfl, _, _⟩ := hu.len
      clear hu hb
      go_wp2_with (fail)
      refine Calls.mono (events_same _ _ (tellP 1 B ++ tellP 2 []) _ (by have h := (HU.out).lies; first | exact h | (rw [List.length_append] at h; exact h)) (by have h := (HV.out).lies; first | exact h | (rw [List.length_append] at h; exact h))) ?_
      rintro e W16 ⟨rfl, hb⟩
      have HF : Hid _ := HF.out.step hb
      clear hb
      go_wp2_with (fail)
      refine Calls.mono (diff19_any (none : Option Addr) (none : Option Addr) [] [] _ (by_nil _ _) (by_nil _ _) (by first | exact hXl | exact hYl | exact hAl | exact hBl | simp) (by first | exact hXl | exact hYl | exact hAl | exact hBl | simp)) ?_
      rintro e W17 ⟨u17, rfl, hu, hb⟩
      have HF : Hid _ := HF.out.step hb
      have HU : Hid _ := hu
      obtain ⟨o17, c17, rfl, _, _⟩ := hu.len
      clear hu hb
      go_wp2_with (fail)
      have HF2 : Hid (FD w0 W17 ss tt rr qq A A B B (.slice o8 T.length c8) T) := HF.out
      clear HU HV HF
      have hTm' : T.length ≤ 9223372036854775807 := by unfold maxLen at hTm; omega
      clear hTm
      go_loopg [17, 18, 19] T.length (fun gm s17 s18 s19 wr => ∃ (j : Nat) (S : List Pr), s17 = .int .i64 (j : Int) ∧ j ≤ T.length ∧ gm = T.length - j ∧ Hid (FD w0 wr ss tt rr qq S A B B (.slice o8 T.length c8) T ∧ SJ A B S j))
      case atStart => exact ⟨0, A, rfl, Nat.zero_le _, rfl, HF2.out, SJ.start A B⟩
      case round =>
        clear HF2
        obtain ⟨j, S, rfl, hj, hgm, HJ⟩ := hrel
        have HM : Hid _ := hgm
        clear hgm
        by_cases hlt : j < T.length
        · obtain ⟨o9, c9, e9, _, _, hrow⟩ := HJ.out.1.own.lies.form
          obtain ⟨g, off, e8, x0, x1, x2⟩ := hrow j hlt
          injection e9 with e9 e91 e92
          clear e91 e92
          rw [e8] at e9
          subst e9
          have hgl : g < wr.heap.size := World.block_lt_of_cell? _ _ x0
          clear hrow e8
          by_cases hx : j < X.length
          · have HE : Hid (evAt T j = ⟨1, (pt X j).a, (pt X j).b⟩) := by rw [← HTT.out]; exact evAt_tell1 hx
            rw [HE.out] at x0 x1 x2
            have HPN : Hid (putN 512 S (pt X j) = true ∧ SJ A B (putL 512 S (pt X j)) (j + 1)) := by
              obtain ⟨k1, k2⟩ := HXY.out
              have hx' : j < (minus B (some A)).length := by rw [k1]; exact hx
              have hS : S.length < 512 := by have h1 := HJ.out.2.len; have h2 := HOK.out; have h3 := minus_length B (some A); omega
              have hso := HJ.out.1.qd.sorted.2
              have t1 := HJ.out.2.new hso hx'
              have t2 := HJ.out.2.put hso HOK.out.1 hx' hS
              rw [k1] at t1 t2
              refine ⟨putN_yes (HOK.out.1 _ ?_) t1 hS, t2⟩
              have t3 : pt X j ∈ minus B (some A) := by rw [k1]; exact pt_mem hx
              exact (mem_minus.1 t3).1
            obtain ⟨p, hp⟩ : ∃ p, pt X j = p := ⟨_, rfl⟩
            rw [hp] at x0 x1 x2 HPN
            dsimp only at x0 x1 x2
            obtain ⟨pa, pb⟩ := p
            dsimp only at x0 x1 x2
            clear HE hp
            go_wp2_with (fail)
            go_region
            obtain ⟨V, hV⟩ : ∃ V, V = (wr.alloc (Obj.cells #[Value.int IntKind.i64 pa, Value.int IntKind.i64 pb] 60)).drew := ⟨_, rfl⟩
            have hbV : Below wr.heap.size wr V := by rw [hV]; exact ((Below.refl _ wr).alloc (Nat.le_refl _) _).drew
            obtain ⟨S0, hS0⟩ : ∃ n, n = wr.heap.size := ⟨_, rfl⟩
            have y0 : V.cell? ⟨S0, 0, none⟩ = some (.int .i64 pa) := by rw [hV, hS0]; simp [go_sem]
            have y1 : V.cell? ⟨S0, 1, none⟩ = some (.int .i64 pb) := by rw [hV, hS0]; simp [go_sem]
            have HPP : Hid _ := (HJ.out.1.step hbV).put ⟨pa, pb⟩
            rw [HPN.out.1] at HPP
            have x0 := z_after hbV x0
            have HSJ : Hid _ := HPN.out.2
            rw [← hV, ← hS0]
            clear hV hS0 hbV HPN HJ x1 x2 hgl
            go_wp2_with (fail)
            refine Calls.mono HPP.out ?_
            rintro e W18 ⟨rfl, hf⟩
            have HFF : Hid _ := hf
            clear hf HPP y0 y1 x0
            go_wp2_with (fail)
            go_roundg (T.length - (j + 1))
            case measure => have := HM.out; omega
            case rel => exact ⟨j + 1, _, by go_num, by omega, rfl, HFF.out, HSJ.out⟩
          · obtain ⟨i, rfl⟩ : ∃ i, j = X.length + i := ⟨j - X.length, by omega⟩
            have hi : i < Y.length := by have := HTN.out; omega
            have HE : Hid (evAt T (X.length + i) = ⟨2, (pt Y i).a, (pt Y i).b⟩) := by rw [← HTT.out]; exact evAt_tell2 hi
            rw [HE.out] at x0 x1 x2
            have HPN : Hid (decide (pt Y i ∈ S) = true ∧ SJ A B (S.filter (fun q => decide (q ≠ pt Y i))) (X.length + i + 1)) := by
              obtain ⟨k1, k2⟩ := HXY.out
              have hi' : i < (minus A (some B)).length := by rw [k2]; exact hi
              have hso := HJ.out.1.qd.sorted
              have hsa : A.Pairwise Pr.Lt := HSA.out
              have t1 := HJ.out.2.has hsa hi' (by rw [k1])
              have t2 := HJ.out.2.drop hi' (by rw [k1])
              rw [k2] at t1 t2
              exact ⟨decide_eq_true t1, t2⟩
            obtain ⟨p, hp⟩ : ∃ p, pt Y i = p := ⟨_, rfl⟩
            rw [hp] at x0 x1 x2 HPN
            dsimp only at x0 x1 x2
            obtain ⟨pa, pb⟩ := p
            dsimp only at x0 x1 x2
            clear HE hp
            go_wp2_with (fail)
            go_region
            obtain ⟨V, hV⟩ : ∃ V, V = (wr.alloc (Obj.cells #[Value.int IntKind.i64 pa, Value.int IntKind.i64 pb] 60)).drew := ⟨_, rfl⟩
            have hbV : Below wr.heap.size wr V := by rw [hV]; exact ((Below.refl _ wr).alloc (Nat.le_refl _) _).drew
            obtain ⟨S0, hS0⟩ : ∃ n, n = wr.heap.size := ⟨_, rfl⟩
            have y0 : V.cell? ⟨S0, 0, none⟩ = some (.int .i64 pa) := by rw [hV, hS0]; simp [go_sem]
            have y1 : V.cell? ⟨S0, 1, none⟩ = some (.int .i64 pb) := by rw [hV, hS0]; simp [go_sem]
            have HPP : Hid _ := (HJ.out.1.step hbV).drop ⟨pa, pb⟩
            rw [HPN.out.1] at HPP
            have x0 := z_after hbV x0
            have HSJ : Hid _ := HPN.out.2
            rw [← hV, ← hS0]
            clear hV hS0 hbV HPN HJ x1 x2 hgl
            go_wp2_with (fail)
            refine Calls.mono HPP.out ?_
            rintro e W18 ⟨rfl, hf⟩
            have HFF : Hid _ := hf
            clear hf HPP y0 y1 x0
            go_wp2_with (fail)
            go_roundg (T.length - (X.length + i + 1))
            case measure => have := HM.out; omega
            case rel => exact ⟨X.length + i + 1, _, by go_num, by omega, rfl, HFF.out, HSJ.out⟩
        · have e : j = T.length := by omega
          subst e
          obtain ⟨hfd, hsj⟩ := HJ.out
          have hdn := hsj.done (by rw [HXY.out.1, HXY.out.2]; exact HTN.out)
          have HDN : Hid _ := hdn
          have HQD : Hid _ := hfd.qd
          clear hfd hsj hdn HJ HXY
          have HZ1 : Hid _ := QD.beyond HQD.out
          rw [HDN.out.1] at HZ1
          go_wp2_with (fail)
          refine Calls.mono HZ1.out ?_
          rintro e W18 ⟨u18, rfl, ⟨o18, c18, rfl⟩, hq⟩
          have HQD : Hid (QD _ _ _ _ _ _ _ _ _ _) := hq
          have HZ2 : Hid _ := QD.beyond (QD.swap HQD.out)
          rw [HDN.out.2] at HZ2
          clear hq HZ1
          rw [List.length_nil]
          go_wp2_with (fail)
          refine Calls.mono HZ2.out ?_
          rintro e W19 ⟨u19, rfl, ⟨o19, c19, rfl⟩, hq⟩
          have HQD : Hid (QD _ _ _ _ _ _ _ _ _ _) := QD.swap hq
          have HB1 : Hid _ := QD.bys HQD.out
          rw [HDN.out.1, HDN.out.2] at HB1
          clear hq HZ2
          rw [List.length_nil]
          go_wp2_with (fail)
          refine Calls.mono (diff19_any (some ⟨ss, 0, none⟩) (some ⟨tt, 0, none⟩) [] [] W19 HB1.out.2.1 HB1.out.1 (by simp) (by simp)) ?_
          rintro e W20 ⟨u20, rfl, hu, hb⟩
          have HB20 : Hid _ := z_step (QD.below HQD.out) hb
          obtain ⟨o20, c20, rfl, _, _⟩ := hu.len
          rw [show (tellP 1 [] ++ tellP 2 []).length = 0 from rfl]
          clear hu hb HB1 HQD
          go_wp2_with (fail)
          go_ret
          exact ⟨rfl, HB20.out⟩

/-! ### The row's step, after the guide's template -/
set_option maxRecDepth 100000 in
theorem lifted (os : Os) (started : os.Started) (H : Type) (enc : TypeId × Value → H) :
    ReturnsInHanded {} Try.checked os 5 .any (Rows.eventDiffsSpec.pre6 enc Try.prog Try.f5 Rows.eventDiffsRow.domain false) (Rows.eventDiffsSpec.post enc Try.prog Try.f5 false true false false) := by
  refine returnsInHanded_of_change_sized (C := Try.checked) own started (by kernel_rfl) Try.func5
    (ChangeSpec.witness6 (enc := enc) (C := Try.checked) false ⟨#[], #[.slice none 0 0, .slice none 0 0], []⟩ 8 (by kernel_rfl) (by kernel_rfl) (by kernel_rfl) (by kernel_rfl)) ?_
  intro W base args ds gs before hval0 hW hcnd hwt0 _
  have hval : ∀ (j : Nat) t v, Try.f5.params[j]? = some t → args[j]? = some v → Value.okWide Try.prog W .any base t v := hval0
  have hW' := hW
  obtain ⟨p, q, hA0, hV, rfl, hfz, hnd⟩ := hW
  have hA : DataW.TrodAll enc Try.prog W 0 (fun _ => true) true Try.f5.params.toList args.toList ds p := hA0
  rw [Try.params5] at hA hval
  have hwt : ∀ n ∈ DataW.weightsEach Try.prog (Try.f5.params.toList ++ Rows.eventDiffsSpec.plain.varTypes Try.prog) (ds ++ gs), n ≤ reachBytes := fun n hn => by have h9 := List.all_eq_true.1 hwt0 n hn; simpa using h9
  rw [Try.params5] at hwt
  clear hwt0
  obtain ⟨v0, vs0, d0, ds0, p0, q0, hargs, rfl, rfl, h0, r0⟩ := trodAll_cons hA
  obtain ⟨v1, vs1, d1, ds1, p1, q1, rfl, rfl, rfl, h1, r1⟩ := trodAll_cons r0
  obtain ⟨rfl, rfl, rfl⟩ := trodAll_nil r1
  obtain rfl : args = #[v0, v1] := by cases args; simp_all
  obtain ⟨rfl, rfl⟩ := trodVars_none hV
  have k0 := h0
  have lt0 : ∀ x ∈ p0, x.block < W.heap.size := by obtain ⟨m, hm⟩ := k0; exact DataW.trod_lt m _ _ _ hm
  obtain ⟨o0, L0, c0, rfl, hL0⟩ := open_pairs19 (hval 0 50 v0 rfl rfl) h0
  have k1 := h1
  have lt1 : ∀ x ∈ p1, x.block < W.heap.size := by obtain ⟨m, hm⟩ := k1; exact DataW.trod_lt m _ _ _ hm
  obtain ⟨o1, L1, c1, rfl, hL1⟩ := open_pairs19 (hval 1 50 v1 rfl rfl) h1
  clear hA0 hval0
  refine (walk o0 L0 c0 o1 L1 c1 W hL0 hL1).mono fun e W' ⟨he, bel⟩ => ?_
  subst he
  exact ⟨_, rfl, _, _, _, [], _, [], hW', trodAll_mk1 (shut_bool Try.underlying4 _), (trodAll_cons_mk (Below.trod laidOut (by kernel_rfl) (of_decide_eq_true (by kernel_rfl)) k0 bel lt0) (trodAll_cons_mk (Below.trod laidOut (by kernel_rfl) (of_decide_eq_true (by kernel_rfl)) k1 bel lt1) trodAll_mk0)), rfl, bel.frame _, fun h => by cases h⟩

theorem over : Rows.eventDiffsRow.holds Try.pinned (OpenSpec.ofChange Rows.eventDiffsSpec) :=
  OpenClaim.holds_of_wide 5 Try.f5 rfl rfl rfl rfl rfl rfl rfl ⟨rfl, rfl, rfl, rfl, rfl⟩ rfl rfl rfl rfl rfl (by kernel_rfl) Try.func5 (by kernel_rfl)
    (of_decide_eq_true (by kernel_rfl)) (by unfold Func.isWrapper; first | (rw [if_pos (by decide +kernel)]; kernel_rfl) | (rw [if_neg (by decide +kernel)]; exact ⟨rfl, rfl⟩))
    (fun os started H enc _ => lifted os started H enc)

end eventDiffs

theorem eventDiffs_holds : Rows.EventDiffsSaid := eventDiffs.over
#print axioms eventDiffs_holds
end Go.Proofs.Ytbbmjfaflcbimaa
