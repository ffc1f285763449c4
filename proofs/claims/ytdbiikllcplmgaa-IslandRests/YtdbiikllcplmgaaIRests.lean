/- Nobody rests with somebody in his group who is not quiet, and whoever may not rest has such a one: true of all groups, all numbers of quiet steps and all needs. -/
import Derived.Test.YtdbiikllcplmgaaIsO
import Derived.ProofKit
namespace Go.Proofs.Ytdbiikllcplmgaa
namespace islandRests
open Go.ChangeShapes Go.WideShapes Go.ChangeAt Go.RowKit Go.Shelf
set_option linter.unusedVariables false

theorem own : ownKnob Try.prog.godebug = none := by kernel_rfl
theorem laidOut : laidOutB Try.prog = true := by kernel_rfl

set_option maxHeartbeats 4000000 in
set_option maxRecDepth 100000 in
theorem walk (o0 : Option Addr) (L0 : List Int) (c0 : Nat) (o1 : Option Addr) (L1 : List Int) (c1 : Nat) (a2 : Int) (w0 : World) (hL0 : RdI w0 (.slice o0 L0.length c0) L0) (hb0 : ∀ z ∈ L0, -9223372036854775808 ≤ z ∧ z ≤ 9223372036854775807) (hL1 : RdI w0 (.slice o1 L1.length c1) L1) (hb1 : ∀ z ∈ L1, -9223372036854775808 ≤ z ∧ z ≤ 9223372036854775807) (ba2 : -9223372036854775808 ≤ a2 ∧ a2 ≤ 9223372036854775807) :
    Calls Try.prog 6 #[.slice o0 L0.length c0, .slice o1 L1.length c1, .int .i64 a2] w0 fun e W => e = .returned (.bool true) ∧ Below w0.heap.size w0 W := by
  obtain ⟨M, hM⟩ : ∃ M, M = L0.take 60 := ⟨_, rfl⟩
  have hlen : M.length ≤ 60 := by rw [hM]; exact List.length_take_le _ _
  have hml : M.length = min L0.length 60 := by rw [hM, List.length_take]; omega
  have HML : Hid _ := hml
  have HRM : Hid (RdI w0 (.slice o0 M.length c0) M) := by
    obtain ⟨o, cp, e, hlc, hcm, hcell⟩ := hL0.form
    cases e
    refine ⟨o0, c0, rfl, by omega, hcm, fun k hk => ?_⟩
    obtain ⟨g, off, z, e, hz, hc⟩ := hcell k (by omega)
    exact ⟨g, off, z, e, by rw [hM, List.getElem?_take, if_pos (by omega)]; exact hz, hc⟩
  have HBM : Hid (∀ z ∈ M, -9223372036854775808 ≤ z ∧ z ≤ 9223372036854775807) := fun z hz => hb0 z (by rw [hM] at hz; exact List.mem_of_mem_take hz)
  have HQ : Hid _ := hL1
  obtain ⟨_, _, e0, hc0, hcm0, _⟩ := hL0.form
  cases e0
  obtain ⟨_, _, e1, hc1, hcm1, _⟩ := hL1.form
  cases e1
  clear hL0 hL1 hb0 hb1 hM hml
  have HA : Hid _ := awake_any w0
  go_enter Try.func6, Try.ntmps6
  go_wp2_with (fail)
  refine Calls.mono HA.out ?_
  clear HA
  rintro e W1 ⟨rfl, b1⟩
  have B1 : Hid _ := b1
  clear b1
  go_upto_region 2 with fail
  go_cut [0] from 16 to 20 (fun s0 wx => s0 = .slice o0 M.length c0 ∧ wx = W1)
  case first =>
    have h3 : L0.length < 60 ∨ L0.length = 60 ∨ 60 < L0.length := by omega
    rcases h3 with h3 | h3 | h3
    · have HE : Hid (L0.length = M.length) := by have := HML.out; show _ = _; omega
      clear HML HRM HBM hlen
      go_wp2_with (fail)
      go_meet
      case rel => exact ⟨by rw [← HE.out], rfl⟩
    · have HE : Hid (60 = M.length) := by have := HML.out; show _ = _; omega
      have hc6 : 60 ≤ c0 := by omega
      have h4 : ¬ L0.length < 60 := by omega
      have h5 : ¬ 60 < L0.length := by omega
      clear HML HRM HBM hlen hc0
      go_wp2_with (fail)
      go_meet
      case rel => exact ⟨by rw [← HE.out], rfl⟩
    · have HE : Hid (60 = M.length) := by have := HML.out; show _ = _; omega
      clear HML HRM HBM hlen
      go_wp2_with (fail)
      go_meet
      case rel => exact ⟨by rw [← HE.out], rfl⟩
  case rest =>
    obtain ⟨rfl, hwc⟩ := hcut
    obtain rfl : W1 = wc := hwc.symm
    clear hwc
    have HRE : Hid _ := rest_any _ _ M L1 a2 W1 (HRM.out.below B1.out) (HQ.out.below B1.out) (by omega) HBM.out
    clear HML
    go_wp2_with (fail)
    refine Calls.mono HRE.out ?_
    clear HRE
    rintro e W2 ⟨vr, rfl, rr, b2⟩
    have B2 : Hid _ := b_step B1.out b2
    obtain ⟨orr, cr, rfl, hcr, hcrm, hrc⟩ := rr.form
    have HRR : Hid (∀ k z, M[k]? = some z → ∃ g off, orr = some ⟨g, off, none⟩ ∧ W2.cell? ⟨g, off + k, none⟩ = some (.bool (!(loud M L1 a2 z M.length)))) := fun k z hz => by
      have hk : k < M.length := (List.getElem?_eq_some_iff.1 hz).1
      obtain ⟨g, off, b, e, hb, hc⟩ := hrc k (by rw [rests_length]; exact hk)
      rw [rests_at L1 a2 hz] at hb
      cases hb
      exact ⟨g, off, e, hc⟩
    have hrl := rests_length M L1 a2
    clear rr b2 hrc B1
    go_wp2_with (fail)
    go_loopg [9] M.length (fun gm s9 wr => ∃ k : Nat, s9 = .int .i64 (k : Int) ∧ k ≤ M.length ∧ gm = M.length - k ∧ Hid (Below W2.heap.size W2 wr))
    case atStart => exact ⟨0, rfl, Nat.zero_le _, rfl, Below.refl _ _⟩
    case round =>
      obtain ⟨k, rfl, hk, hgm, HB⟩ := hrel
      have HM : Hid _ := hgm
      clear hgm
      by_cases hlt : k < M.length
      · obtain ⟨_, _, eo, _, _, hmc⟩ := (HRM.out.below B2.out).form
        cases eo
        obtain ⟨g0, off0, z, rfl, hz, x0⟩ := hmc k hlt
        have x0 := c_after HB.out x0
        have HMM : Hid _ := members_any _ M z wr ((HRM.out.below B2.out).below HB.out) (by omega)
        have HZ : Hid _ := hz
        clear hz hmc
        go_wp2_with (fail)
        refine Calls.mono HMM.out ?_
        clear HMM x0
        rintro e W3 ⟨vm, rfl, hio⟩
        have HIO : Hid _ := hio
        have B3 : Hid _ := b_step HB.out hio.below
        obtain ⟨om, cm, rfl, hcm, hcmm, hmc⟩ := (RdI.of_row hio.row).form
        have HMC : Hid _ := hmc
        have hmm0 : (memb M z M.length).length ≤ M.length := memb_length _ _ _
        have HME : Hid ((memb M z M.length).any (fun p => decide (L1[p.toNat]?.getD 0 < a2)) = loud M L1 a2 z M.length) := loud_any M L1 a2 z M.length
        have HMO : Hid ((memb M z M.length).any (fun p => decide (p = (k : Int))) = true) := List.any_eq_true.2 ⟨(k : Int), memb_mem HZ.out _ hlt, by simp⟩
        have HMR : Hid ((memb M z M.length).Pairwise (· < ·)) := memb_rise M z M.length
        have HMP : Hid (∀ x ∈ memb M z M.length, ∃ p : Nat, x = (p : Int) ∧ p < M.length ∧ M[p]? = some z) := fun x hx => memb_of _ hx
        clear hio hmc HIO
        generalize memb M z M.length = E at *
        go_wp2_with (fail)
        go_loopg [11, 12, 13] E.length (fun gn s11 s12 s13 wr => ∃ j : Nat, s11 = .bool ((E.take j).any (fun p => decide (L1[p.toNat]?.getD 0 < a2))) ∧ s12 = .bool ((E.take j).any (fun p => decide (p = (k : Int)))) ∧ s13 = .int .i64 (j : Int) ∧ j ≤ E.length ∧ gn = E.length - j ∧ Hid (Below W3.heap.size W3 wr))
        case atStart => exact ⟨0, rfl, rfl, rfl, Nat.zero_le _, rfl, Below.refl _ _⟩
        case round =>
          obtain ⟨j, rfl, rfl, rfl, hj, hgn, HB4⟩ := hrel
          have HN : Hid _ := hgn
          clear hgn
          by_cases hjt : j < E.length
          · obtain ⟨g1, off1, x, rfl, hx, y0⟩ := HMC.out j hjt
            obtain ⟨p, rfl, hpl, hpz⟩ := HMP.out x (List.mem_of_getElem? hx)
            have y0 := c_after HB4.out y0
            obtain ⟨_, _, eo, _, _, hmc⟩ := (HRM.out.below B2.out).form
            cases eo
            obtain ⟨g0', off0', z', e0', hz', x0⟩ := hmc k hlt
            cases e0'
            obtain rfl : z = z' := Option.some.inj (HZ.out.symm.trans hz')
            obtain ⟨g0', off0', z', e0', hz', xp⟩ := hmc p hpl
            cases e0'
            obtain rfl : z = z' := Option.some.inj (hpz.symm.trans hz')
            have x0 := c_after HB4.out (c_after B3.out x0)
            have xp := c_after HB4.out (c_after B3.out xp)
            have HS1 : Hid ((E.take (j + 1)).any (fun p => decide (L1[p.toNat]?.getD 0 < a2)) = ((E.take j).any (fun p => decide (L1[p.toNat]?.getD 0 < a2)) || decide (L1[p]?.getD 0 < a2))) := any_step (fun p => decide (L1[p.toNat]?.getD 0 < a2)) hx
            have HS2 : Hid ((E.take (j + 1)).any (fun p => decide (p = (k : Int))) = ((E.take j).any (fun p => decide (p = (k : Int))) || decide ((p : Int) = (k : Int)))) := any_step (fun p => decide (p = (k : Int))) hx
            generalize (E.take j).any (fun p => decide (L1[p.toNat]?.getD 0 < a2)) = lj at *
            generalize (E.take j).any (fun p => decide (p = (k : Int))) = oj at *
            have HX : Hid _ := hx
            clear hx hz' hpz hmc
            have hp0 : ¬ (p : Int) < 0 := by omega
            have hzz : (z == z) = true := beq_self_eq_true z
            have hpl2 : ¬ M.length ≤ p := by omega
            have hpl3 : decide ((M.length : Int) ≤ (p : Int)) = false := decide_eq_false (by omega)
            have hp1 : decide ((p : Int) < 0) = false := decide_eq_false (by omega)
            have HPQ : Hid (∀ i, j = i + 1 → ∃ q : Nat, q < p ∧ wr.cell? ⟨g1, off1 + i, none⟩ = some (.int .i64 (q : Int))) := fun i hi => by
              obtain ⟨g2, off2, x2, e2, hx2, y2⟩ := HMC.out i (by omega)
              cases e2
              obtain ⟨q, rfl, _, _⟩ := HMP.out x2 (List.mem_of_getElem? hx2)
              have := rise_at HMR.out hx2 (by rw [← hi]; exact HX.out)
              exact ⟨q, by omega, c_after HB4.out y2⟩
            have HQV : Hid (∃ qv, L1[p]?.getD 0 = qv ∧ (p < L1.length → ∃ g off, o1 = some ⟨g, off, none⟩ ∧ wr.cell? ⟨g, off + p, none⟩ = some (.int .i64 qv)) ∧ (¬ p < L1.length → qv = 0)) := by
              refine ⟨_, rfl, fun h => ?_, fun h => by rw [List.getElem?_eq_none (by omega)]; rfl⟩
              obtain ⟨_, _, eo, _, _, hqc⟩ := HQ.out.form
              cases eo
              obtain ⟨g, off, q, e, hq, hc⟩ := hqc p h
              exact ⟨g, off, e, by rw [hq]; exact c_after HB4.out (c_after (b_step B2.out B3.out) hc)⟩
            clear HRM HBM HQ HZ HMC HMR HMP HX HRR HMO HME HM
            go_upto_region 15 with fail
            go_cut [95] from 52 to 95 (fun s95 wx => s95 = .bool false ∧ wx = wr.drew)
            case first =>
              clear HQV HS1 HS2
              cases j with
              | zero =>
                clear HPQ
                simp only [Nat.add_zero] at y0
                go_region
                go_wp2_with (fail)
                go_meet
                case rel => exact ⟨rfl, rfl⟩
              | succ i =>
                obtain ⟨q, hqp, yq⟩ := HPQ.out i rfl
                have hpq : ¬ (p : Int) ≤ (q : Int) := by omega
                have hpq2 : ¬ p ≤ q := by omega
                have hpq3 : decide ((p : Int) ≤ (q : Int)) = false := decide_eq_false hpq
                have hi0 : decide ((0 : Int) < (i : Int) + 1) = true := decide_eq_true (by omega)
                have hi1 : (0 : Int) ≤ (i : Int) + 1 := by omega
                have hi2 : (i : Int) + 1 < (E.length : Int) := by omega
                clear HPQ
                go_region
                go_wp2_with (fail)
                go_meet
                case rel => exact ⟨rfl, rfl⟩
            case rest =>
              obtain ⟨rfl, rfl⟩ := hcut
              clear HPQ
              obtain ⟨qv, hqv, hq1, hq2⟩ := HQV.out
              rw [hqv] at HS1
              have HW1 : Hid (L1[p]?.getD 0 = qv) := hqv
              clear hqv HQV
              have HD : Hid (Below W3.heap.size W3 wr.drew) := HB4.out.drew
              by_cases hq : p < L1.length
              · obtain ⟨g2, off2, rfl, yq⟩ := hq1 hq
                clear hq1 hq2
                go_upto_region 20 with fail
                go_cut [11] from 110 to 115 (fun s11 wx => s11 = .bool (lj || decide (qv < a2)) ∧ wx = wr.drew)
                case first =>
                  clear HS1 HS2
                  cases lj with
                  | true =>
                    go_wp2_with (fail)
                    go_meet
                    case rel => exact ⟨rfl, rfl⟩
                  | false =>
                    by_cases hqa : qv < a2
                    · have e : decide (qv < a2) = true := decide_eq_true hqa
                      go_wp2_with (fail)
                      go_meet
                      case rel => exact ⟨by rw [e]; rfl, rfl⟩
                    · have e : decide (qv < a2) = false := decide_eq_false hqa
                      go_wp2_with (fail)
                      go_meet
                      case rel => exact ⟨by rw [e]; rfl, rfl⟩
                case rest =>
                  obtain ⟨rfl, hwc⟩ := hcut
                  obtain rfl : wr.drew = wc := hwc.symm
                  clear hwc
                  cases oj with
                  | true =>
                    go_wp2_with (fail)
                    go_roundg (E.length - (j + 1))
                    case measure => have := HN.out; omega
                    case rel => exact ⟨j + 1, by rw [HS1.out], by rw [HS2.out]; rfl, by go_num, by omega, rfl, HD.out⟩
                  | false =>
                    by_cases hpk : p = k
                    · subst hpk
                      go_wp2_with (fail)
                      go_roundg (E.length - (j + 1))
                      case measure => have := HN.out; omega
                      case rel => exact ⟨j + 1, by rw [HS1.out], by rw [HS2.out]; simp, by go_num, by omega, rfl, HD.out⟩
                    · have e : decide ((p : Int) = (k : Int)) = false := decide_eq_false (by omega)
                      have e1 : ((p : Int) == (k : Int)) = false := beq_eq_false_iff_ne.2 (by omega)
                      have e2 : (p == k) = false := beq_eq_false_iff_ne.2 hpk
                      go_wp2_with (fail)
                      go_roundg (E.length - (j + 1))
                      case measure => have := HN.out; omega
                      case rel => exact ⟨j + 1, by rw [HS1.out], by rw [HS2.out, e]; rfl, by go_num, by omega, rfl, HD.out⟩
              · obtain rfl := hq2 hq
                clear hq1 hq2
                go_upto_region 20 with fail
                go_cut [11] from 110 to 115 (fun s11 wx => s11 = .bool (lj || decide (0 < a2)) ∧ wx = wr.drew)
                case first =>
                  clear HS1 HS2
                  cases lj with
                  | true =>
                    go_wp2_with (fail)
                    go_meet
                    case rel => exact ⟨rfl, rfl⟩
                  | false =>
                    by_cases hqa : 0 < a2
                    · have e : decide (0 < a2) = true := decide_eq_true hqa
                      go_wp2_with (fail)
                      go_meet
                      case rel => exact ⟨by rw [e]; rfl, rfl⟩
                    · have e : decide (0 < a2) = false := decide_eq_false hqa
                      go_wp2_with (fail)
                      go_meet
                      case rel => exact ⟨by rw [e]; rfl, rfl⟩
                case rest =>
                  obtain ⟨rfl, hwc⟩ := hcut
                  obtain rfl : wr.drew = wc := hwc.symm
                  clear hwc
                  cases oj with
                  | true =>
                    go_wp2_with (fail)
                    go_roundg (E.length - (j + 1))
                    case measure => have := HN.out; omega
                    case rel => exact ⟨j + 1, by rw [HS1.out], by rw [HS2.out]; rfl, by go_num, by omega, rfl, HD.out⟩
                  | false =>
                    by_cases hpk : p = k
                    · subst hpk
                      go_wp2_with (fail)
                      go_roundg (E.length - (j + 1))
                      case measure => have := HN.out; omega
                      case rel => exact ⟨j + 1, by rw [HS1.out], by rw [HS2.out]; simp, by go_num, by omega, rfl, HD.out⟩
                    · have e : decide ((p : Int) = (k : Int)) = false := decide_eq_false (by omega)
                      have e1 : ((p : Int) == (k : Int)) = false := beq_eq_false_iff_ne.2 (by omega)
                      have e2 : (p == k) = false := beq_eq_false_iff_ne.2 hpk
                      go_wp2_with (fail)
                      go_roundg (E.length - (j + 1))
                      case measure => have := HN.out; omega
                      case rel => exact ⟨j + 1, by rw [HS1.out], by rw [HS2.out, e]; rfl, by go_num, by omega, rfl, HD.out⟩
          · have e : j = E.length := by omega
            subst e
            rw [List.take_length, HME.out, HMO.out]
            obtain ⟨g9, off9, rfl, yr⟩ := HRR.out k z HZ.out
            have yr := c_after (b_step B3.out HB4.out) yr
            have B5 : Hid _ := b_step B3.out HB4.out
            clear HMC HMR HMP HME HMO HRR HZ HRM HQ HBM
            generalize loud M L1 a2 z M.length = lz at *
            cases lz
            all_goals
              go_wp2_with (fail)
              go_roundg (M.length - (k + 1))
              case measure => have := HM.out; omega
              case rel => exact ⟨k + 1, by go_num, by omega, rfl, B5.out⟩
      · have e : k = M.length := by omega
        go_wp2_with (fail)
        go_ret
        exact ⟨rfl, b_step B2.out HB.out⟩

/-! ### The row's step, after the guide's template -/
set_option maxRecDepth 100000 in
theorem lifted (os : Os) (started : os.Started) (H : Type) (enc : TypeId × Value → H) :
    ReturnsInHanded {} Try.checked os 6 .any (Rows.islandRestsSpec.pre6 enc Try.prog Try.f6 Rows.islandRestsRow.domain false) (Rows.islandRestsSpec.post enc Try.prog Try.f6 false true false false) := by
  refine returnsInHanded_of_change (C := Try.checked) own started (by kernel_rfl) Try.func6
    (ChangeSpec.witness6 (enc := enc) (C := Try.checked) false ⟨#[], #[.slice none 0 0, .slice none 0 0, .int .i64 0], []⟩ 8 (by kernel_rfl) (by kernel_rfl) (by kernel_rfl) (by kernel_rfl)) ?_
  intro W base args ds gs before hval0 hW hcnd _
  have hval : ∀ (j : Nat) t v, Try.f6.params[j]? = some t → args[j]? = some v → Value.okWide Try.prog W .any base t v := hval0
  have hW' := hW
  obtain ⟨p, q, hA0, hV, rfl, hfz, hnd⟩ := hW
  have hA : DataW.TrodAll enc Try.prog W 0 (fun _ => true) true Try.f6.params.toList args.toList ds p := hA0
  rw [Try.params6] at hA hval
  obtain ⟨v0, vs0, d0, ds0, p0, q0, hargs, rfl, rfl, h0, r0⟩ := trodAll_cons hA
  obtain ⟨v1, vs1, d1, ds1, p1, q1, rfl, rfl, rfl, h1, r1⟩ := trodAll_cons r0
  obtain ⟨v2, vs2, d2, ds2, p2, q2, rfl, rfl, rfl, h2, r2⟩ := trodAll_cons r1
  obtain ⟨rfl, rfl, rfl⟩ := trodAll_nil r2
  obtain rfl : args = #[v0, v1, v2] := by cases args; simp_all
  obtain ⟨rfl, rfl⟩ := trodVars_none hV
  have k0 := h0
  have lt0 : ∀ x ∈ p0, x.block < W.heap.size := by obtain ⟨m, hm⟩ := k0; exact DataW.trod_lt m _ _ _ hm
  obtain ⟨o0, L0, c0, rfl, hL0, hb0⟩ := open_ints17 (hval 0 24 v0 rfl rfl) h0
  have k1 := h1
  have lt1 : ∀ x ∈ p1, x.block < W.heap.size := by obtain ⟨m, hm⟩ := k1; exact DataW.trod_lt m _ _ _ hm
  obtain ⟨o1, L1, c1, rfl, hL1, hb1⟩ := open_ints17 (hval 1 24 v1 rfl rfl) h1
  obtain ⟨a2, rfl, rfl, rfl, w2⟩ := open_int Try.underlying3 (hval 2 3 v2 rfl rfl) h2
  have b2 := bounds_i64 w2
  clear hA0 hval0
  refine (walk o0 L0 c0 o1 L1 c1 a2 W hL0 hb0 hL1 hb1 (by omega)).mono fun e W' ⟨he, bel⟩ => ?_
  subst he
  exact ⟨_, rfl, _, _, _, [], _, [], hW', trodAll_mk1 (shut_bool Try.underlying4 _), (trodAll_cons_mk (Below.trod laidOut (by kernel_rfl) (of_decide_eq_true (by kernel_rfl)) k0 bel lt0) (trodAll_cons_mk (Below.trod laidOut (by kernel_rfl) (of_decide_eq_true (by kernel_rfl)) k1 bel lt1) (trodAll_cons_mk (shut_int Try.underlying3 w2) trodAll_mk0))), rfl, bel.frame _, fun h => by cases h⟩

theorem over : Rows.islandRestsRow.holds Try.pinned (OpenSpec.ofChange Rows.islandRestsSpec) :=
  OpenClaim.holds_of_wide 6 Try.f6 rfl rfl rfl rfl rfl rfl rfl ⟨rfl, rfl, rfl, rfl, rfl⟩ rfl rfl rfl rfl rfl (by kernel_rfl) Try.func6 (by kernel_rfl)
    (of_decide_eq_true (by kernel_rfl)) (by unfold Func.isWrapper; first | (rw [if_pos (by decide +kernel)]; kernel_rfl) | (rw [if_neg (by decide +kernel)]; exact ⟨rfl, rfl⟩))
    (fun os started H enc _ => lifted os started H enc)

end islandRests

theorem islandRests_holds : Rows.IslandRestsSaid := islandRests.over
#print axioms islandRests_holds
end Go.Proofs.Ytdbiikllcplmgaa
