/- EventPlays: a queue answers every script of its calls as the document does, and so does its clone: true of every room and every script. -/
import Derived.Test.YtbbmjfaflcbimaaEvQ
import Derived.ProofKit
namespace Go.Proofs.Ytbbmjfaflcbimaa
namespace eventPlays
open Go.ChangeShapes Go.WideShapes Go.ChangeAt Go.RowKit Go.Shelf
set_option linter.unusedVariables false

theorem own : ownKnob Try.prog.godebug = none := by kernel_rfl
theorem laidOut : laidOutB Try.prog = true := by kernel_rfl

set_option maxHeartbeats 4000000 in
set_option maxRecDepth 100000 in
theorem walk (a0 : Int) (o1 : Option Addr) (L1 : List (St)) (c1 : Nat) (w0 : World) (ba0 : -9223372036854775808 ≤ a0 ∧ a0 ≤ 9223372036854775807) (hL1 : LiesS w0 (.slice o1 L1.length c1) L1) :
    Calls Try.prog 3 #[.int .i64 a0, .slice o1 L1.length c1] w0 fun e W => e = .returned (.bool true) ∧ Below w0.heap.size w0 W := by
  have HA : Hid _ := awake19_any w0
  have HS : Hid _ := hL1
  obtain ⟨_, _, e1, hc1, hcm1, _⟩ := hL1.form
  cases e1
  clear hL1
  by_cases hroom : a0 < 1 ∨ 1024 < a0
  · have HN1 : Hid _ := fun W => new19_no a0 W hroom
    have HN2 : Hid _ := fun W => rnew19_no a0 W hroom
    clear hroom
    go_enter Try.func3, Try.ntmps3
    go_wp2_with (fail)
    refine Calls.mono HA.out ?_
    clear HA
    rintro e W1 ⟨rfl, b1⟩
    have B1 : Hid _ := b1
    clear b1
    go_wp2_with (fail)
    refine Calls.mono (HN1.out W1) ?_
    rintro e W2 ⟨rfl, hW⟩
    obtain rfl : W1 = W2 := hW.symm
    clear hW
    go_wp2_with (fail)
    refine Calls.mono (HN2.out W1) ?_
    rintro e W2 ⟨rfl, hW⟩
    obtain rfl : W1 = W2 := hW.symm
    clear hW
    go_wp2_with (fail)
    go_ret
    exact ⟨rfl, B1.out⟩
  · obtain ⟨rm, rfl⟩ : ∃ rm : Nat, a0 = (rm : Int) := ⟨a0.toNat, by omega⟩
    have hr1 : 1 ≤ rm := by omega
    have hr2 : rm ≤ 1024 := by omega
    clear hroom ba0
    go_enter Try.func3, Try.ntmps3
    go_wp2_with (fail)
    refine Calls.mono HA.out ?_
    clear HA
    rintro e W1 ⟨rfl, b1⟩
    have B1 : Hid _ := b1
    clear b1
    go_wp2_with (fail)
    refine Calls.mono (new19_yes rm W1 hr1 hr2) ?_
    rintro e W2 ⟨qp, rb, rfl, hqp, hrb, hQ, hb⟩
    have HQ : Hid (_ ∧ _ ∧ _) := And.intro hQ (And.intro hqp hrb)
    have B2 : Hid _ := hb
    clear hQ hqp hrb hb
    go_wp2_with (fail)
    refine Calls.mono (rnew19_yes rm w0.heap.size W2 hr1 hr2) ?_
    rintro e W3 ⟨rp, rfl, hrp, hR, hb⟩
    have HP : Hid (PL w0 W3 qp rb rp rm (.slice none 0 0) [] []) := by
      obtain ⟨hQ, h1, h2⟩ := HQ.out
      have hl := Qu.lt hQ
      have s1 := B1.out.size
      have s2 := B2.out.size
      exact ⟨Qu.below hQ hb, hR, z_step (z_step B1.out B2.out) hb, ⟨by omega, by omega, by omega⟩, by omega, by omega, by simp [Value.ownBlock], by simp [Value.ownBlock]⟩
    clear hrp hR hb HQ B1 B2
    go_wp2_with (fail)
    go_loopg [6, 10, 11, 12, 13, 14, 15, 16, 17, 18, 19] 300 (fun gm s6 s10 s11 s12 s13 s14 s15 s16 s17 s18 s19 wr => ∃ (k qp rb : Nat) (v : Value) (C : List Ev), s6 = .pointer (some ⟨qp, 0, none⟩) ∧ s10 = .int .i64 (k : Int) ∧ k ≤ 300 ∧ gm = 300 - k ∧ Hid (PL w0 wr qp rb rp rm v C C))
    case atStart => exact ⟨0, qp, rb, _, [], rfl, rfl, by omega, rfl, HP⟩
    case round =>
      clear HP
      obtain ⟨k, qp, rb, v, C, rfl, rfl, hk, hgm, HP⟩ := hrel
      have HM : Hid _ := hgm
      clear hgm
      by_cases hgo : k < L1.length ∧ k < 300
      · obtain ⟨h1, h2⟩ := hgo
        obtain ⟨o9, c9, e9, _, _, hrow⟩ := HS.out.form
        obtain ⟨g, off, o3, c3, st, e8, hl, cell0, cell1, hE, hw0, hw1⟩ := hrow k h1
        injection e9 with e9 e91 e92
        clear e91 e92
        rw [e8] at e9
        subst e9
        have cell0 := z_after HP.out.below cell0
        have cell1 := z_after HP.out.below cell1
        obtain ⟨wt, l⟩ := st
        dsimp only at cell0 cell1 hE hw0 hw1
        have HE : Hid _ := hE
        clear hrow hE hl e8
        have q0 := pickE_lo wt (n := 4) (by omega)
        have q1 := pickE_hi wt (n := 4) (by omega)
        obtain ⟨m, hm⟩ : ∃ m : Int, pickE wt 4 = m := ⟨_, rfl⟩
        rw [hm] at q0 q1
        have HMM : Hid _ := hm
        clear hm
        go_upto_region 13 with fail
        obtain ⟨V, hV⟩ : ∃ V, V = wr.alloc (Obj.cells #[Value.int IntKind.i64 wt, .slice o3 l.length c3] 33) := ⟨_, rfl⟩
        obtain ⟨S0, hS0⟩ : ∃ n, n = wr.heap.size := ⟨_, rfl⟩
        have z0 : V.cell? ⟨S0, 0, none⟩ = some (.int .i64 wt) := by rw [hV, hS0]; simp [go_sem]
        have z1 : V.cell? ⟨S0, 1, none⟩ = some (.slice o3 l.length c3) := by rw [hV, hS0]; simp [go_sem]
        have HPS : Hid (PS w0 V qp rb rp rm v C C S0 (.slice o3 l.length c3)) := by
          have hl := Qu.lt HP.out.qu
          have hrl := HP.out.r.lt
          refine ⟨HP.out.step (by rw [hV]; exact (Below.refl _ _).alloc (Nat.le_refl _) _), z1, by omega, by omega, by omega, fun e => ?_⟩
          have := (HP.out.r.own.lt _ e).2
          omega
        rw [← hV, ← hS0]
        clear hV hS0 cell0 cell1 HP
        go_wp2_with (fail)
        refine Calls.mono (epick_any wt 4 V ⟨hw0, hw1⟩ (by omega) (by omega)) ?_
        rintro e W6 ⟨rfl, hW⟩
        obtain rfl : V = W6 := hW.symm
        clear hW
        rw [HMM.out]
        go_upto_block 2 with fail
        go_cut [6, 12] from 64 to 103 (fun s6 s12 wx => ∃ (qp rb : Nat) (v : Value) (C : List Ev), s6 = .pointer (some ⟨qp, 0, none⟩) ∧ s12 = .bool true ∧ Hid (PL w0 wx qp rb rp rm v C C))
        case first =>
          have hS := World.block_lt_of_cell? _ _ z0
          by_cases hm2 : m = 2
          · subst hm2
            have HPT : Hid _ := HPS.out.pl.take
            obtain ⟨x, hx⟩ : ∃ x, hdE C = x := ⟨_, rfl⟩
            obtain ⟨tb, htb⟩ : ∃ tb, isE C = tb := ⟨_, rfl⟩
            rw [hx, htb] at HPT
            have HXT : Hid (hdE C = x ∧ isE C = tb) := ⟨hx, htb⟩
            obtain ⟨ek, ea, eb⟩ := x
            unfold Ev.v at HPT
            dsimp only at HPT
            clear HPS z0 z1 hx htb hS q0 q1 HMM HE hw0 hw1
            go_wp2_with (fail)
            refine Calls.mono HPT.out ?_
            rintro e W7 ⟨rfl, hp⟩
            have HP7 : Hid _ := hp
            clear hp HPT
            go_upto_region 17 with fail
            obtain ⟨V2, hV2⟩ : ∃ V, V = W7.alloc (Obj.cells #[Value.int IntKind.i64 ek, Value.int IntKind.i64 ea, Value.int IntKind.i64 eb] 37) := ⟨_, rfl⟩
            obtain ⟨S1, hS1⟩ : ∃ n, n = W7.heap.size := ⟨_, rfl⟩
            have y0 : V2.cell? ⟨S1, 0, none⟩ = some (.int .i64 ek) := by rw [hV2, hS1]; simp [go_sem]
            have y1 : V2.cell? ⟨S1, 1, none⟩ = some (.int .i64 ea) := by rw [hV2, hS1]; simp [go_sem]
            have y2 : V2.cell? ⟨S1, 2, none⟩ = some (.int .i64 eb) := by rw [hV2, hS1]; simp [go_sem]
            have HP8 : Hid _ := HP7.out.step (show Below W7.heap.size W7 V2 by rw [hV2]; exact (Below.refl _ _).alloc (Nat.le_refl _) _)
            have n1 : S1 ≠ rp := by have := HP7.out.r.lt; omega
            have n2 : v.ownBlock ≠ some S1 := fun e => by have := (HP7.out.r.own.lt _ e).2; omega
            have HRT : Hid _ := HP8.out.rtake
            rw [HXT.out.1, HXT.out.2] at HRT
            unfold Ev.v at HRT
            dsimp only at HRT
            rw [← hV2, ← hS1]
            clear hV2 hS1 HP7
            go_wp2_with (fail)
            refine Calls.mono HRT.out ?_
            rintro e W8 ⟨v', rfl, hp, hcells⟩
            have y0 := hcells _ _ y0 n1 n2
            have y1 := hcells _ _ y1 n1 n2
            have y2 := hcells _ _ y2 n1 n2
            have hS1 : S1 < W8.heap.size := World.block_lt_of_cell? _ _ y0
            have HP9 : Hid (PL w0 (W8.alloc (Obj.cells #[Value.int IntKind.i64 ek, Value.int IntKind.i64 ea, Value.int IntKind.i64 eb] 37)) qp rb rp rm v' C.tail C.tail) := hp.step ((Below.refl _ _).alloc (Nat.le_refl _) _)
            clear hp hcells HRT HP8 HXT
            go_wp2_with (fail)
            go_meet
            case rel => exact ⟨qp, rb, v', C.tail, rfl, rfl, HP9⟩
          · have em2 : (m == 2) = false := beq_eq_false_iff_ne.2 hm2
            by_cases hm3 : m = 3
            · subst hm3
              have HCL : Hid _ := qclone_any qp rb rm C V HPS.out.pl.qu
              clear z0 z1 q0 q1 HMM HE hw0 hw1
              go_wp2_with (fail)
              refine Calls.mono HCL.out ?_
              rintro e W7 ⟨qp', rb', rfl, g1, g2, hq', hb⟩
              have HP7 : Hid _ := HPS.out.pl.clone hq' hb g1 g2
              have HO7 : Hid (Qu W7 qp rb rm C) := Qu.below HPS.out.pl.qu hb
              have HNN : Hid (w0.heap.size ≤ qp ∧ w0.heap.size ≤ rb ∧ qp' ≠ qp ∧ qp' ≠ rb ∧ rb' ≠ qp ∧ rb' ≠ rb ∧ rp ≠ qp ∧ rp ≠ rb ∧ v.ownBlock ≠ some qp ∧ v.ownBlock ≠ some rb) := by
                have hl := Qu.lt HPS.out.pl.qu
                have hp := HPS.out.pl
                exact ⟨hp.ge.1, hp.ge.2.1, by omega, by omega, by omega, by omega, Ne.symm hp.ne.1, Ne.symm hp.ne.2.1, hp.ne.2.2.1, hp.ne.2.2.2⟩
              clear hq' hb g1 g2 HCL HPS hS
              go_wp2_with (fail)
              refine Calls.mono (take_any HO7.out) ?_
              rintro e W8 ⟨x, t8, C2, rfl, hq2, ht⟩
              have HP8 : Hid (PL w0 W8 qp' rb' rp rm v C C) := by
                obtain ⟨a1, a2, a3, a4, a5, a6, a7, a8, a9, a10⟩ := HNN.out
                exact HP7.out.other ht ⟨a1, a2⟩ ⟨a3, a4, a5, a6⟩ ⟨a7, a8⟩ ⟨a9, a10⟩
              have HO8 : Hid (Qu W8 qp rb rm C2) := hq2
              clear hq2 ht HP7 HO7
              obtain ⟨V2, hV2⟩ : ∃ V, V = W8.alloc (Obj.cells #[Value.int IntKind.i64 77, Value.int IntKind.i64 0, Value.int IntKind.i64 0] 37) := ⟨_, rfl⟩
              obtain ⟨S1, hS1⟩ : ∃ n, n = W8.heap.size := ⟨_, rfl⟩
              have hb2 : Below W8.heap.size W8 V2 := by rw [hV2]; exact (Below.refl _ _).alloc (Nat.le_refl _) _
              have hl := Qu.lt HO8.out
              have HPU : Hid _ := push_any (Qu.below HO8.out hb2) [⟨77, 0, 0⟩] (.slice (some ⟨S1, 0, none⟩) 1 1) (by rw [hV2, hS1]; exact one_lies 77 0 0) (fun _ => far_new (by omega) (by omega))
              have HP9 : Hid _ := HP8.out.step hb2
              unfold Ev.v
              go_wp2_with (fail)
              rw [← hV2, ← hS1]
              refine Calls.mono HPU.out ?_
              rintro e W9 ⟨z9, C3, rfl, hq3, ht⟩
              have HP10 : Hid (PL w0 W9 qp' rb' rp rm v C C) := by
                obtain ⟨a1, a2, a3, a4, a5, a6, a7, a8, a9, a10⟩ := HNN.out
                exact HP9.out.other ht ⟨a1, a2⟩ ⟨a3, a4, a5, a6⟩ ⟨a7, a8⟩ ⟨a9, a10⟩
              clear hl hq3 ht HP9 HP8 hV2 hS1 hb2 HPU HNN HO8
              go_wp2_with (fail)
              go_meet
              case rel => exact ⟨qp', rb', v, C, rfl, rfl, HP10⟩
            · have em3 : (m == 3) = false := beq_eq_false_iff_ne.2 hm3
              obtain ⟨z, hz⟩ : ∃ z, pushZ rm C l = z := ⟨_, rfl⟩
              have HPQ : Hid (∀ W v D, PS w0 W qp rb rp rm v C D S0 (.slice o3 l.length c3) → Calls Try.prog 13 #[.pointer (some ⟨qp, 0, none⟩), .slice o3 l.length c3] W fun e V => e = .returned (.int .i64 z) ∧ PS w0 V qp rb rp rm v (pushC rm C l) D S0 (.slice o3 l.length c3)) := fun W v D h => by rw [← hz]; exact h.q HE.out
              have HPR : Hid (∀ W v D, PS w0 W qp rb rp rm v D C S0 (.slice o3 l.length c3) → Calls Try.prog 14 #[.pointer (some ⟨rp, 0, none⟩), .slice o3 l.length c3] W fun e V => ∃ v', e = .returned (.int .i64 z) ∧ PS w0 V qp rb rp rm v' D (pushC rm C l) S0 (.slice o3 l.length c3)) := fun W v D h => by rw [← hz]; exact h.r HE.out
              clear hz z0 q0 q1 HMM HE hw0 hw1 hm2 hm3 hS
              go_wp2_with (fail)
              go_region_with (first | (go_at_call 13; refine (HPQ.out _ _ _ (by first | exact HPS.out | exact HPS.out.step (Below.refl _ _).drew)).mono ?_; rintro e W7 ⟨rfl, hp⟩; have HPS : Hid _ := hp; have z1 := HPS.out.b1; clear hp) | (go_at_call 14; refine (HPR.out _ _ _ (by first | exact HPS.out | exact HPS.out.step (Below.refl _ _).drew)).mono ?_; rintro e W7 ⟨v7, rfl, hp⟩; have HPS : Hid _ := hp; have z1 := HPS.out.b1; clear hp))
              all_goals
                go_wp2_with (fail)
                go_meet
                case rel => exact ⟨qp, rb, _, pushC rm C l, rfl, rfl, HPS.out.pl⟩
        case rest =>
          obtain ⟨qp, rb, v, C, rfl, rfl, HP⟩ := hcut
          clear HPS z0 z1 HE HMM q0 q1 hw0 hw1
          have HAL : Hid _ := qall_any qp rb rm C wc HP.out.qu
          have hC := (Qu.count HP.out.qu).1
          obtain ⟨gl, hgl⟩ : ∃ n, n = wc.heap.size := ⟨_, rfl⟩
          have HGN : Hid (gl ≠ qp ∧ gl ≠ rb ∧ gl ≠ rp ∧ v.ownBlock ≠ some gl ∧ w0.heap.size ≤ gl) := by
            have hl := Qu.lt HP.out.qu
            have h3 := HP.out.r.lt
            have h4 := HP.out.below.size
            exact ⟨by omega, by omega, by omega, fun e => by have := (HP.out.r.own.lt _ e).2; omega, by omega⟩
          go_wp2_with (fail)
          refine Calls.mono HAL.out ?_
          rintro e W8 ⟨rfl, hEL, hb⟩
          rw [← hgl] at hEL ⊢
          have HP8 : Hid _ := HP.out.step hb
          have HEL : Hid _ := hEL
          have HFR : Hid _ := HP8.out.free
          clear hEL hb hgl HAL HP
          go_wp2_with (fail)
          refine Calls.mono HFR.out ?_
          rintro e W9 ⟨rfl, hb⟩
          have HP9 : Hid _ := HP8.out.step hb
          have HEL : Hid _ := HEL.out.below hb
          have HFR : Hid _ := HP9.out.rfree
          clear hb HP8
          go_wp2_with (fail)
          refine Calls.mono HFR.out ?_
          rintro e W10 ⟨rfl, hb⟩
          have HP10 : Hid _ := HP9.out.step hb
          have HEL : Hid _ := HEL.out.below hb
          have HRA : Hid _ := rall19_any rp w0.heap.size rm v C W10 HP10.out.r
          clear hb HP9 HFR
          go_wp2_with (fail)
          refine Calls.mono HRA.out ?_
          rintro e W11 ⟨u, rfl, hu, hb⟩
          have HP11 : Hid _ := HP10.out.step hb
          have HEL : Hid _ := HEL.out.below hb
          have HEV : Hid _ := events_same (.slice (some ⟨gl, 0, none⟩) C.length C.length) u C W11 (OA.lies (OA.of_row (HEL.out.own (Nat.zero_le _) (by omega)))) hu.lies
          obtain ⟨ou, cu, rfl, _, _⟩ := hu.len
          clear hb hu HP10 HRA
          go_wp2_with (fail)
          refine Calls.mono HEV.out ?_
          rintro e W12 ⟨rfl, hb⟩
          have HP12 : Hid _ := HP11.out.step hb
          have HEM : Hid (∃ M : List Ev, M.length = C.length ∧ EL W12 gl M) := ⟨C, rfl, HEL.out.below hb⟩
          clear hb HEV HP11 HEL
          go_wp2_with (fail)
          go_loopg [19] C.length (fun gm s19 wr2 => ∃ j : Nat, s19 = .int .i64 (j : Int) ∧ j ≤ C.length ∧ gm = C.length - j ∧ Hid (∃ M : List Ev, M.length = C.length ∧ EL wr2 gl M) ∧ Hid (PL w0 wr2 qp rb rp rm v C C))
          case atStart => exact ⟨0, rfl, Nat.zero_le _, rfl, HEM, HP12⟩
          case round =>
            obtain ⟨j, rfl, hj, hgm, HEJ, HPJ⟩ := hrel
            have HMJ : Hid _ := hgm
            clear hgm HEM HP12
            by_cases hlt : j < C.length
            · obtain ⟨M, hM, hE⟩ := HEJ.out
              have hjl : j < M.length := by omega
              have x0 := (hE.cell hjl).1
              have fz := hE.froz
              have HEK : Hid _ := hE.setK hjl (-9)
              have HLM : Hid (M.length = C.length) := hM
              have HPK : Hid _ := HPJ.out.far ⟨gl, j * 3, none⟩ (.int .i64 (-9)) HGN.out.2.2.2.2 (Ne.symm HGN.out.1) (Ne.symm HGN.out.2.1) (Ne.symm HGN.out.2.2.1) HGN.out.2.2.2.1
              have hji : (j : Int) < (C.length : Int) := by omega
              clear hE hM hjl HEJ HPJ
              generalize (evAt M j).k = w9 at *
              go_wp2_with (fail)
              go_roundg (C.length - (j + 1))
              case measure => have := HMJ.out; omega
              case rel => exact ⟨j + 1, by go_num, by omega, rfl, ⟨_, by rw [List.length_set]; exact HLM.out, HEK.out⟩, HPK⟩
            · go_wp2_with (fail)
              go_roundg (300 - (k + 1))
              case measure => have := HM.out; omega
              case rel => exact ⟨k + 1, qp, rb, v, C, rfl, by go_num, by omega, rfl, HPJ⟩
      · have HAL : Hid _ := qall_any qp rb rm C wr HP.out.qu
        have hC := (Qu.count HP.out.qu).1
        clear HS
        by_cases h1 : k < L1.length
        all_goals
          have h2 : k < L1.length → ¬ k < 300 := fun a b => hgo ⟨a, b⟩
          first | (have h3 : ¬ k < 300 := h2 h1) | skip
          clear h2 hgo
          go_wp2_with (fail)
          refine Calls.mono HAL.out ?_
          rintro e W5 ⟨rfl, hEL, hb⟩
          have HEL : Hid _ := hEL
          have HP5 : Hid _ := HP.out.step hb
          have HRA : Hid _ := rall19_any rp w0.heap.size rm v C W5 HP5.out.r
          clear hEL hb HAL HP
          go_wp2_with (fail)
          refine Calls.mono HRA.out ?_
          rintro e W6 ⟨u, rfl, hu, hb⟩
          have HB6 : Hid _ := z_step HP5.out.below hb
          have HEV : Hid _ := events_same _ u C W6 (OA.lies (OA.of_row ((HEL.out.below hb).own (Nat.zero_le _) (by omega)))) hu.lies
          obtain ⟨ou, cu, rfl, _, _⟩ := hu.len
          clear hu hb HEL HRA HP5
          go_wp2_with (fail)
          refine Calls.mono HEV.out ?_
          rintro e W7 ⟨rfl, hb⟩
          have HB7 : Hid _ := z_step HB6.out hb
          clear hb HEV
          go_wp2_with (fail)
          go_ret
          exact ⟨rfl, HB7.out⟩

/-! ### The row's step, after the guide's template -/
set_option maxRecDepth 100000 in
theorem lifted (os : Os) (started : os.Started) (H : Type) (enc : TypeId × Value → H) :
    ReturnsInHanded {} Try.checked os 3 .any (Rows.eventPlaysSpec.pre6 enc Try.prog Try.f3 Rows.eventPlaysRow.domain false) (Rows.eventPlaysSpec.post enc Try.prog Try.f3 false true false false) := by
  refine returnsInHanded_of_change_sized (C := Try.checked) own started (by kernel_rfl) Try.func3
    (ChangeSpec.witness6 (enc := enc) (C := Try.checked) false ⟨#[], #[.int .i64 0, .slice none 0 0], []⟩ 8 (by kernel_rfl) (by kernel_rfl) (by kernel_rfl) (by kernel_rfl)) ?_
  intro W base args ds gs before hval0 hW hcnd hwt0 _
  have hval : ∀ (j : Nat) t v, Try.f3.params[j]? = some t → args[j]? = some v → Value.okWide Try.prog W .any base t v := hval0
  have hW' := hW
  obtain ⟨p, q, hA0, hV, rfl, hfz, hnd⟩ := hW
  have hA : DataW.TrodAll enc Try.prog W 0 (fun _ => true) true Try.f3.params.toList args.toList ds p := hA0
  rw [Try.params3] at hA hval
  have hwt : ∀ n ∈ DataW.weightsEach Try.prog (Try.f3.params.toList ++ Rows.eventPlaysSpec.plain.varTypes Try.prog) (ds ++ gs), n ≤ reachBytes := fun n hn => by have h9 := List.all_eq_true.1 hwt0 n hn; simpa using h9
  rw [Try.params3] at hwt
  clear hwt0
  obtain ⟨v0, vs0, d0, ds0, p0, q0, hargs, rfl, rfl, h0, r0⟩ := trodAll_cons hA
  obtain ⟨v1, vs1, d1, ds1, p1, q1, rfl, rfl, rfl, h1, r1⟩ := trodAll_cons r0
  obtain ⟨rfl, rfl, rfl⟩ := trodAll_nil r1
  obtain rfl : args = #[v0, v1] := by cases args; simp_all
  obtain ⟨rfl, rfl⟩ := trodVars_none hV
  obtain ⟨a0, rfl, rfl, rfl, w0⟩ := open_int Try.underlying3 (hval 0 3 v0 rfl rfl) h0
  have b0 := bounds_i64 w0
  have k1 := h1
  have lt1 : ∀ x ∈ p1, x.block < W.heap.size := by obtain ⟨m, hm⟩ := k1; exact DataW.trod_lt m _ _ _ hm
  obtain ⟨o1, L1, c1, rfl, hL1⟩ := open_steps19 (hval 1 22 v1 rfl rfl) h1
  clear hA0 hval0
  refine (walk a0 o1 L1 c1 W (by omega) hL1).mono fun e W' ⟨he, bel⟩ => ?_
  subst he
  exact ⟨_, rfl, _, _, _, [], _, [], hW', trodAll_mk1 (shut_bool Try.underlying4 _), (trodAll_cons_mk (shut_int Try.underlying3 w0) (trodAll_cons_mk (Below.trod laidOut (by kernel_rfl) (of_decide_eq_true (by kernel_rfl)) k1 bel lt1) trodAll_mk0)), rfl, bel.frame _, fun h => by cases h⟩

theorem over : Rows.eventPlaysRow.holds Try.pinned (OpenSpec.ofChange Rows.eventPlaysSpec) :=
  OpenClaim.holds_of_wide 3 Try.f3 rfl rfl rfl rfl rfl rfl rfl ⟨rfl, rfl, rfl, rfl, rfl⟩ rfl rfl rfl rfl rfl (by kernel_rfl) Try.func3 (by kernel_rfl)
    (of_decide_eq_true (by kernel_rfl)) (by unfold Func.isWrapper; first | (rw [if_pos (by decide +kernel)]; kernel_rfl) | (rw [if_neg (by decide +kernel)]; exact ⟨rfl, rfl⟩))
    (fun os started H enc _ => lifted os started H enc)

end eventPlays

theorem eventPlays_holds : Rows.EventPlaysSaid := eventPlays.over
#print axioms eventPlays_holds
end Go.Proofs.Ytbbmjfaflcbimaa
