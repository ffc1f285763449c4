/- PoolPlays: for every room and every script of steps the law answers true: a pool answers every script of its calls as the document's own answer does, and so does its clone. No conditions. -/
import Derived.Test.YtoocenbmggfodaaPoolO
import Derived.Test.YtoocenbmggfodaaRows
import Derived.ProofKit
import Derived.OpenShut
import Derived.ShutString
import Derived.ChangeOld
import Derived.Deep.Grids
import Derived.Deep.CutBlock
namespace Go.Proofs.Ytoocenbmggfodaa
namespace poolPlays
open Go.ChangeShapes Go.WideShapes Go.ChangeAt Go.RowKit Go.Shelf
set_option linter.unusedVariables false

theorem own : ownKnob Try.prog.godebug = none := by kernel_rfl
theorem laidOut : laidOutB Try.prog = true := by kernel_rfl
theorem pick_any (c n : Int) (w : World) (h0 : -9223372036854775808 ≤ c) (h1 : c ≤ 9223372036854775807) (hn : 0 < n) (hn' : n ≤ 9223372036854775807) :
    Calls Try.prog 7 #[.int .i64 c, .int .i64 n] w fun e w' => ∃ r : Int, e = .returned (.int .i64 r) ∧ 0 ≤ r ∧ r < n ∧ w' = w := by
  by_cases hc : c < 0
  · have hb : 0 ≤ -(c + 1) := by omega
    have hb' : -(c + 1) ≤ 9223372036854775807 := by omega
    have hz : (n == 0) = false := beq_eq_false_iff_ne.2 (by omega)
    go_enter Try.func7, Try.ntmps7
    go_wp2
    go_ret
    have e : (c + 1).tmod n = -(-(c + 1) % n) := by
      rw [← Int.tmod_eq_emod_of_nonneg hb, Int.neg_tmod, Int.neg_neg]
    have m0 := Int.emod_nonneg (-(c + 1)) (show n ≠ 0 by omega)
    have m1 := Int.emod_lt_of_pos (-(c + 1)) hn
    exact ⟨_, rfl, by rw [e]; omega, by rw [e]; omega, rfl⟩
  · have hz : (n == 0) = false := beq_eq_false_iff_ne.2 (by omega)
    go_enter Try.func7, Try.ntmps7
    go_wp2
    go_ret
    exact ⟨_, rfl, Int.emod_nonneg _ (by omega), Int.emod_lt_of_pos _ hn, rfl⟩


set_option maxRecDepth 100000 in
set_option maxHeartbeats 16000000 in
theorem walk (a : Option Addr) (len cap : Nat) (sw sn sx : Nat → Int) (sb : Nat → Bool) (room : Int) (w : World) (hl : len ≤ 9223372036854775807)
    (hs : len = 0 ∨ ∃ b off, a = some ⟨b, off, none⟩ ∧ ∀ i, i < len → w.cell? ⟨b, off + i * 4, none⟩ = some (.int .i64 (sw i)) ∧ w.cell? ⟨b, off + i * 4 + 1, none⟩ = some (.int .i64 (sn i)) ∧ w.cell? ⟨b, off + i * 4 + 2, none⟩ = some (.int .i64 (sx i)) ∧ w.cell? ⟨b, off + i * 4 + 3, none⟩ = some (.bool (sb i)))
    (hw : ∀ i, i < len → (-9223372036854775808 ≤ sw i ∧ sw i ≤ 9223372036854775807) ∧ (-9223372036854775808 ≤ sn i ∧ sn i ≤ 9223372036854775807))
    (h0 : -9223372036854775808 ≤ room) (h1 : room ≤ 9223372036854775807) :
    Calls Try.prog 3 #[.int .i64 room, .slice a len cap] w fun e w' => e = .returned (.bool true) ∧ Below w.heap.size w w' := by
  obtain ⟨i0, hii, hiz, hisz, hib⟩ := info_parts int_info
  have HI : Hid _ := And.intro hii (And.intro hiz (And.intro hisz hib))
  clear hii hiz hisz hib
  have HIN : Hid _ := hs
  have HBD : Hid _ := hw
  clear hs hw
  by_cases hr : room < 1 ∨ 1024 < room
  · go_enter Try.func3, Try.ntmps3
    go_wp2_with (fail)
    refine (awake_any _).mono ?_
    rintro e W1 ⟨rfl, hb1⟩
    have HB1 : Hid (Below w.heap.size w W1) := hb1
    clear hb1
    go_wp2_with (fail)
    refine (new_no room W1 hr).mono ?_
    rintro e W2 ⟨rfl, rfl⟩
    go_wp2_with (fail)
    refine (rnew_no room _ hr).mono ?_
    rintro e W2 ⟨rfl, rfl⟩
    clear hr
    go_wp2_with (fail)
    go_ret
    exact ⟨rfl, HB1.out⟩
  obtain ⟨n, rfl⟩ : ∃ n : Nat, room = (n : Int) := ⟨room.toNat, by omega⟩
  have hn1 : 1 ≤ n := by omega
  have hn2 : n ≤ 1024 := by omega
  clear hr
  go_enter Try.func3, Try.ntmps3
  go_wp2_with (fail)
  refine (awake_any _).mono ?_
  rintro e W1 ⟨rfl, hb1⟩
  have HB1 : Hid (Below w.heap.size w W1) := hb1
  clear hb1
  go_wp2_with (fail)
  refine (new_yes n W1 hn1 hn2).mono ?_
  rintro e W2 ⟨pp, pl, rfl, hpl0, hpp0, hp, hb⟩
  have HB : Hid (Below w.heap.size w W2) := HB1.out.trans (hb.mono HB1.out.size)
  have hw1 := HB1.out.size
  have hpll : pl < W2.heap.size := hp.lt
  have hppl : pp < W2.heap.size := hp.plt
  have HP : Hid _ := hp
  clear hp hb HB1
  go_wp2_with (fail)
  refine (rnew_yes n W2 hn1 hn2).mono ?_
  rintro e W3 ⟨rp, rl, rfl, hrl0, hrp0, hr, hb⟩
  have HD : Hid (Duo w W3 pp pl rp rl (List.replicate n ⟨0, false, 0⟩) (List.replicate n ⟨0, false, 0⟩) (.slice none 0 0) []) := ⟨HP.out.below hb, hr, World.ownsRow_nil _ _ _ _, HB.out.trans (hb.mono HB.out.size), by omega, by omega, by omega, by omega, by omega, fun k e => by cases e⟩
  have hrpos : 0 < (List.replicate n (⟨0, false, 0⟩ : Pl)).length := by rw [List.length_replicate]; omega
  have HRP : Hid _ := hrpos
  clear hr hb HP HB hpll hppl hrl0 hrp0 hpl0 hpp0 hw1 hrpos
  go_wp2_with (fail)
  go_loopg [6, 10, 11] (min len 300) (fun g s6 s10 i wr => ∃ (k pp pl : Nat) (A : List Pl) (o : Option Addr) (c : Nat) (td : List Int), s6 = .pointer (some ⟨pp, 0, none⟩) ∧ s10 = .slice o td.length c ∧ i = .int .i64 (k : Int) ∧ k ≤ len ∧ k ≤ 300 ∧ td.length ≤ k ∧ Hid (0 < A.length) ∧ g = min len 300 - k ∧ Hid (∀ t ∈ td, t ≤ 9223372036854775807) ∧ Hid (Duo w wr pp pl rp rl A A (.slice o td.length c) td))
  case atStart => exact ⟨0, pp, pl, _, none, 0, [], rfl, rfl, rfl, Nat.zero_le _, Nat.zero_le _, Nat.le_refl _, HRP, rfl, (fun t ht => by cases ht), HD⟩
  case round =>
    clear HD HRP
    obtain ⟨k, pp, pl, A, o, c, td, rfl, rfl, rfl, hk1, hk2, htd, HA0, hg, HTD, HD⟩ := hrel
    by_cases hlt : k < len
    · by_cases hlt2 : k < 300
      · rcases HIN.out with e0 | ⟨b, off, rfl, hc⟩
        · omega
        obtain ⟨c0, c1, c2, c3⟩ := hc k hlt
        obtain ⟨⟨b0, b0'⟩, ⟨b1, b1'⟩⟩ := HBD.out k hlt
        have c0 := (HD.out.below.cell (World.block_lt_of_cell? _ _ c0)).trans c0
        have c1 := (HD.out.below.cell (World.block_lt_of_cell? _ _ c1)).trans c1
        have c2 := (HD.out.below.cell (World.block_lt_of_cell? _ _ c2)).trans c2
        have c3 := (HD.out.below.cell (World.block_lt_of_cell? _ _ c3)).trans c3
        clear hc
        generalize sw k = xw at *
        generalize sn k = xn at *
        generalize sx k = xx at *
        generalize sb k = xf at *
        have HG : Hid _ := hg
        clear hg
        go_upto_region 14 with fail
        obtain ⟨W0, hW0⟩ : ∃ W, W = wr.alloc (.cells #[.int .i64 xw, .int .i64 xn, .int .i64 xx, .bool xf] 33) := ⟨_, rfl⟩
        obtain ⟨xb, hxe⟩ : ∃ b, b = wr.heap.size := ⟨_, rfl⟩
        obtain ⟨xo, hxo⟩ : ∃ x : Obj, x = .cells #[.int .i64 xw, .int .i64 xn, .int .i64 xx, .bool xf] 33 := ⟨_, rfl⟩
        rw [← hW0, ← hxe]
        obtain ⟨w0, hw0⟩ : ∃ x, x = w := ⟨_, rfl⟩
        have HX : Hid (DuoX w0 W0 pp pl rp rl xb xo A A (.slice o td.length c) td) := by
          show DuoX _ _ _ _ _ _ _ _ _ _ _ _
          rw [hW0, hxe, hw0, hxo]
          obtain ⟨l1, l2, l3, l4, l5⟩ := HD.out.lts
          exact ⟨HD.out.step ((Below.refl _ wr).alloc (Nat.le_refl _) _), heap_alloc_new _ _, by omega, by omega⟩
        have XC : ∀ W : World, W.heap[xb]? = some xo → W.cell? ⟨xb, 0, none⟩ = some (.int .i64 xw) ∧ W.cell? ⟨xb, 1, none⟩ = some (.int .i64 xn) ∧ W.cell? ⟨xb, 2, none⟩ = some (.int .i64 xx) ∧ W.cell? ⟨xb, 3, none⟩ = some (.bool xf) := fun W h => by
          rw [hxo] at h
          exact ⟨by simp [World.cell?, h], by simp [World.cell?, h], by simp [World.cell?, h], by simp [World.cell?, h]⟩
        have HXC : Hid _ := XC
        obtain ⟨x0, x1, x2, x3⟩ := XC W0 HX.out.box
        clear c0 c1 c2 c3 hW0 hxe HD XC hxo
        obtain ⟨cc, hcc⟩ : ∃ cc : Bool, cc = (xf && decide (0 < td.length)) := ⟨_, rfl⟩
        go_cut [73] from 51 to 191 (fun s73 wx => s73 = .bool cc ∧ wx = W0)
        case first =>
          cases xf with
          | false =>
            have hcc' : cc = false := hcc
            go_wp2_with (fail)
            go_meet
            case rel => exact ⟨by rw [hcc'], rfl⟩
          | true =>
            have hcc' : cc = decide (0 < td.length) := hcc
            have HCC : Hid _ := hcc'
            clear hcc hcc'
            go_wp2_with (fail)
            go_meet
            case rel => exact ⟨by rw [HCC.out], rfl⟩
        case rest =>
          obtain ⟨rfl, rfl⟩ := hcut
          go_upto_if 73 with fail
          go_cut [13] from 51 to 191 (fun s13 wx => wx = wc ∧ ∃ h : Int, s13 = .int .i64 h ∧ h ≤ 9223372036854775807)
          case first =>
            cases cc with
            | false =>
              clear hcc
              go_wp2_with (fail)
              go_meet
              case rel => exact ⟨rfl, xn, rfl, b1'⟩
            | true =>
              have htp : 0 < td.length := by
                rw [eq_comm, Bool.and_eq_true, decide_eq_true_eq] at hcc
                have := hcc.2
                omega
              clear hcc
              go_wp2_with (fail)
              refine (pick_any xn (td.length : Int) _ b1 b1' (by omega) (by omega)).mono ?_
              rintro e w2 ⟨r, rfl, r0, r1, rfl⟩
              obtain ⟨j, rfl⟩ : ∃ j : Nat, r = (j : Int) := ⟨r.toNat, by omega⟩
              obtain ⟨g, rfl, y⟩ := num_at rfl HX.out.duo.t (k := j) (by omega)
              have hjt : td[j]?.getD 0 ≤ 9223372036854775807 := by
                rw [List.getElem?_eq_getElem (by omega)]
                exact HTD.out _ (List.getElem_mem _)
              generalize td[j]?.getD 0 = y9 at *
              have hj : (j : Int) < (td.length : Int) := r1
              go_wp2_with (fail)
              go_meet
              case rel => exact ⟨rfl, y9, rfl, hjt⟩
          case rest =>
            obtain ⟨rfl, h, rfl, hh⟩ := hcut
            go_wp2_with (fail)
            refine (pick_any xw 7 _ b0 b0' (by omega) (by omega)).mono ?_
            rintro e w2 ⟨z, rfl, hz0, hz1, rfl⟩
            clear x0 x1 x3 b0 b0' b1 b1' hcc
            go_upto_block 2 with fail
            go_cut [6, 10, 14] from 51 to 191 (fun s6 s10 s14 wx => s14 = .bool true ∧ ∃ (pp pl : Nat) (A : List Pl) (o : Option Addr) (c : Nat) (td : List Int), s6 = .pointer (some ⟨pp, 0, none⟩) ∧ s10 = .slice o td.length c ∧ td.length ≤ k + 1 ∧ Hid (0 < A.length) ∧ Hid (∀ t ∈ td, t ≤ 9223372036854775807) ∧ Hid (Duo w0 wx pp pl rp rl A A (.slice o td.length c) td))
            case first =>
              by_cases z6 : z = 6
              · subst z6
                obtain ⟨b, A2, hl2, C1, C2⟩ := both_lay A h xx hh
                have HA2 : Hid (0 < A2.length) := by show 0 < _; rw [hl2]; exact HA0.out
                have HC1 : Hid _ := C1
                have HC2 : Hid _ := C2
                clear C1 C2 hl2
                go_wp2_with (fail)
                refine RV.region_by (fun j v w => match j with | 0 => v = .pointer (some ⟨pp, 0, none⟩) | 1 => v = .int .i64 h | 2 => v = .pointer (some ⟨xb, 2, none⟩) | 3 => v = .int .i64 xx | 4 => v = .bool b | 5 => v = .pointer (some ⟨rp, 0, none⟩) | 6 => v = .int .i64 h | 7 => v = .pointer (some ⟨xb, 2, none⟩) | 8 => v = .int .i64 xx | 9 => v = .bool b | 10 => v = .bool true | 11 => v = .bool true | _ => True) (fun γ L W => DuoX w0 W pp pl rp rl xb xo (bif L 4 then A2 else A) (bif L 9 then A2 else A) (.slice o td.length c) td) (by kernel_rfl) (by kernel_rfl) (by kernel_rfl) (by kernel_rfl) ?_ ?_ ?_
                · exact HX.out.step (Below.refl _ _).drew
                · generalize hD : dstOf _ = D
                  generalize hWA : waitsFor _ = WA
                  generalize hZ : Act.mk _ _ = Z
                  obtain ⟨R, hR⟩ : ∃ R : Nat → Value → World → Prop, R = (fun j v w => match j with | 0 => v = .pointer (some ⟨pp, 0, none⟩) | 1 => v = .int .i64 h | 2 => v = .pointer (some ⟨xb, 2, none⟩) | 3 => v = .int .i64 xx | 4 => v = .bool b | 5 => v = .pointer (some ⟨rp, 0, none⟩) | 6 => v = .int .i64 h | 7 => v = .pointer (some ⟨xb, 2, none⟩) | 8 => v = .int .i64 xx | 9 => v = .bool b | 10 => v = .bool true | 11 => v = .bool true | _ => True) := ⟨_, rfl⟩
                  rw [← hR]
                  have d0 : D 0 = some 113 := by rw [← hD]; rfl
                  have d1 : D 1 = some 114 := by rw [← hD]; rfl
                  have d2 : D 2 = some 115 := by rw [← hD]; rfl
                  have d3 : D 3 = some 116 := by rw [← hD]; rfl
                  have d4 : D 4 = some 117 := by rw [← hD]; rfl
                  have d5 : D 5 = some 118 := by rw [← hD]; rfl
                  have d6 : D 6 = some 119 := by rw [← hD]; rfl
                  have d7 : D 7 = some 120 := by rw [← hD]; rfl
                  have d8 : D 8 = some 121 := by rw [← hD]; rfl
                  have d9 : D 9 = some 122 := by rw [← hD]; rfl
                  have d10 : D 10 = some 123 := by rw [← hD]; rfl
                  have d11 : D 11 = some 14 := by rw [← hD]; rfl
                  have r0 : ∀ v w, R 0 v w = (v = .pointer (some ⟨pp, 0, none⟩)) := fun v w => by rw [hR]; rfl
                  have r1 : ∀ v w, R 1 v w = (v = .int .i64 h) := fun v w => by rw [hR]; rfl
                  have r2 : ∀ v w, R 2 v w = (v = .pointer (some ⟨xb, 2, none⟩)) := fun v w => by rw [hR]; rfl
                  have r3 : ∀ v w, R 3 v w = (v = .int .i64 xx) := fun v w => by rw [hR]; rfl
                  have r4 : ∀ v w, R 4 v w = (v = .bool b) := fun v w => by rw [hR]; rfl
                  have r5 : ∀ v w, R 5 v w = (v = .pointer (some ⟨rp, 0, none⟩)) := fun v w => by rw [hR]; rfl
                  have r6 : ∀ v w, R 6 v w = (v = .int .i64 h) := fun v w => by rw [hR]; rfl
                  have r7 : ∀ v w, R 7 v w = (v = .pointer (some ⟨xb, 2, none⟩)) := fun v w => by rw [hR]; rfl
                  have r8 : ∀ v w, R 8 v w = (v = .int .i64 xx) := fun v w => by rw [hR]; rfl
                  have r9 : ∀ v w, R 9 v w = (v = .bool b) := fun v w => by rw [hR]; rfl
                  have r10 : ∀ v w, R 10 v w = (v = .bool true) := fun v w => by rw [hR]; rfl
                  have r11 : ∀ v w, R 11 v w = (v = .bool true) := fun v w => by rw [hR]; rfl
                  have E6 : ∀ (γ : Nat → Value) (L : Nat → Bool) (a : Act) (w : World), RV.Held D WA R (fun γ L W => DuoX w0 W pp pl rp rl xb xo (bif L 4 then A2 else A) (bif L 9 then A2 else A) (.slice o td.length c) td) Z γ L a w → a.tmps[6]? = some (.pointer (some ⟨pp, 0, none⟩)) := fun γ L a w hH => (hH.rest 6 (by rw [← hD]; exact RV.dst_free (by kernel_rfl))).trans (by rw [← hZ]; rfl)
                  have E8 : ∀ (γ : Nat → Value) (L : Nat → Bool) (a : Act) (w : World), RV.Held D WA R (fun γ L W => DuoX w0 W pp pl rp rl xb xo (bif L 4 then A2 else A) (bif L 9 then A2 else A) (.slice o td.length c) td) Z γ L a w → a.tmps[8]? = some (.pointer (some ⟨rp, 0, none⟩)) := fun γ L a w hH => (hH.rest 8 (by rw [← hD]; exact RV.dst_free (by kernel_rfl))).trans (by rw [← hZ]; rfl)
                  have E12 : ∀ (γ : Nat → Value) (L : Nat → Bool) (a : Act) (w : World), RV.Held D WA R (fun γ L W => DuoX w0 W pp pl rp rl xb xo (bif L 4 then A2 else A) (bif L 9 then A2 else A) (.slice o td.length c) td) Z γ L a w → a.tmps[12]? = some (.pointer (some ⟨xb, 0, none⟩)) := fun γ L a w hH => (hH.rest 12 (by rw [← hD]; exact RV.dst_free (by kernel_rfl))).trans (by rw [← hZ]; rfl)
                  have E13 : ∀ (γ : Nat → Value) (L : Nat → Bool) (a : Act) (w : World), RV.Held D WA R (fun γ L W => DuoX w0 W pp pl rp rl xb xo (bif L 4 then A2 else A) (bif L 9 then A2 else A) (.slice o td.length c) td) Z γ L a w → a.tmps[13]? = some (.int .i64 h) := fun γ L a w hH => (hH.rest 13 (by rw [← hD]; exact RV.dst_free (by kernel_rfl))).trans (by rw [← hZ]; rfl)
                  have K : ∀ j v w w', R j v w → R j v w' := by rw [hR]; intro j v w w' h; exact h
                  clear hD hWA hZ hR
                  refine RV.AllDo.cons 0 (RV.does_pure (fun γ v L w hl h => by rw [RV.more_ne (L := L) (i := 0) (j := 4) (by decide), RV.more_ne (L := L) (i := 0) (j := 9) (by decide)]; exact h) (fun γ L a w hH hl hA => by have e0 := E6 γ L a w hH; exact ⟨.pointer (some ⟨pp, 0, none⟩), by simp [execOp, go_sem, e0], (r0 _ _).mpr rfl⟩)) ?_
                  refine RV.AllDo.cons 1 (RV.does_pure (fun γ v L w hl h => by rw [RV.more_ne (L := L) (i := 1) (j := 4) (by decide), RV.more_ne (L := L) (i := 1) (j := 9) (by decide)]; exact h) (fun γ L a w hH hl hA => by have e0 := E13 γ L a w hH; exact ⟨.int .i64 h, by simp [execOp, go_sem, e0], (r1 _ _).mpr rfl⟩)) ?_
                  refine RV.AllDo.cons 2 (RV.does_pure (fun γ v L w hl h => by rw [RV.more_ne (L := L) (i := 2) (j := 4) (by decide), RV.more_ne (L := L) (i := 2) (j := 9) (by decide)]; exact h) (fun γ L a w hH hl hA => by have e0 := E12 γ L a w hH; exact ⟨.pointer (some ⟨xb, 2, none⟩), by simp [execOp, go_sem, e0], (r2 _ _).mpr rfl⟩)) ?_
                  refine RV.AllDo.cons 3 (RV.does_pure (fun γ v L w hl h => by rw [RV.more_ne (L := L) (i := 3) (j := 4) (by decide), RV.more_ne (L := L) (i := 3) (j := 9) (by decide)]; exact h) (fun γ L a w hH hl hA => by have l0 : L 2 = true := hA ⟨2, .data⟩ (by simp) rfl; have e0 := hH.slot 2 115 d2 l0; have g0 := hH.holds 2 l0; rw [r2] at g0; rw [g0] at e0; have z := (HXC.out w hH.glob.box).2.2.1; exact ⟨.int .i64 xx, by simp [execOp, go_sem, e0, z], (r3 _ _).mpr rfl⟩)) ?_
                  refine RV.AllDo.cons 4 (RV.does_call (fun γ L a w hH hl hA => by have l0 : L 0 = true := hA ⟨0, .data⟩ (by simp) rfl; have e0 := hH.slot 0 113 d0 l0; have g0 := hH.holds 0 l0; rw [r0] at g0; rw [g0] at e0; have l1 : L 1 = true := hA ⟨1, .data⟩ (by simp) rfl; have e1 := hH.slot 1 114 d1 l1; have g1 := hH.holds 1 l1; rw [r1] at g1; rw [g1] at e1; have l2 : L 3 = true := hA ⟨3, .data⟩ (by simp) rfl; have e2 := hH.slot 3 116 d3 l2; have g2 := hH.holds 3 l2; rw [r3] at g2; rw [g2] at e2; have hD := hH.glob; rw [hl] at hD; refine ⟨8, #[.pointer (some ⟨pp, 0, none⟩), .int .i64 h, .int .i64 xx], by simp [go_sem, e0, e1, e2], Calls.mono (HC1.out w pp pl hD.duo.p) ?_⟩; rintro e w2 ⟨rfl, hp2, hg2⟩; exact ⟨_, rfl, (r4 _ _).mpr rfl, fun j v _ h => K j v _ _ h, by rw [RV.more_self, RV.more_ne (L := L) (i := 4) (j := 9) (by decide)]; exact hD.turnP hp2 hg2⟩)) ?_
                  refine RV.AllDo.cons 5 (RV.does_pure (fun γ v L w hl h => by rw [RV.more_ne (L := L) (i := 5) (j := 4) (by decide), RV.more_ne (L := L) (i := 5) (j := 9) (by decide)]; exact h) (fun γ L a w hH hl hA => by have e0 := E8 γ L a w hH; exact ⟨.pointer (some ⟨rp, 0, none⟩), by simp [execOp, go_sem, e0], (r5 _ _).mpr rfl⟩)) ?_
                  refine RV.AllDo.cons 6 (RV.does_pure (fun γ v L w hl h => by rw [RV.more_ne (L := L) (i := 6) (j := 4) (by decide), RV.more_ne (L := L) (i := 6) (j := 9) (by decide)]; exact h) (fun γ L a w hH hl hA => by have e0 := E13 γ L a w hH; exact ⟨.int .i64 h, by simp [execOp, go_sem, e0], (r6 _ _).mpr rfl⟩)) ?_
                  refine RV.AllDo.cons 7 (RV.does_pure (fun γ v L w hl h => by rw [RV.more_ne (L := L) (i := 7) (j := 4) (by decide), RV.more_ne (L := L) (i := 7) (j := 9) (by decide)]; exact h) (fun γ L a w hH hl hA => by have e0 := E12 γ L a w hH; exact ⟨.pointer (some ⟨xb, 2, none⟩), by simp [execOp, go_sem, e0], (r7 _ _).mpr rfl⟩)) ?_
                  refine RV.AllDo.cons 8 (RV.does_pure (fun γ v L w hl h => by rw [RV.more_ne (L := L) (i := 8) (j := 4) (by decide), RV.more_ne (L := L) (i := 8) (j := 9) (by decide)]; exact h) (fun γ L a w hH hl hA => by have l0 : L 7 = true := hA ⟨7, .data⟩ (by simp) rfl; have e0 := hH.slot 7 120 d7 l0; have g0 := hH.holds 7 l0; rw [r7] at g0; rw [g0] at e0; have z := (HXC.out w hH.glob.box).2.2.1; exact ⟨.int .i64 xx, by simp [execOp, go_sem, e0, z], (r8 _ _).mpr rfl⟩)) ?_
                  refine RV.AllDo.cons 9 (RV.does_call (fun γ L a w hH hl hA => by have l0 : L 5 = true := hA ⟨5, .data⟩ (by simp) rfl; have e0 := hH.slot 5 118 d5 l0; have g0 := hH.holds 5 l0; rw [r5] at g0; rw [g0] at e0; have l1 : L 6 = true := hA ⟨6, .data⟩ (by simp) rfl; have e1 := hH.slot 6 119 d6 l1; have g1 := hH.holds 6 l1; rw [r6] at g1; rw [g1] at e1; have l2 : L 8 = true := hA ⟨8, .data⟩ (by simp) rfl; have e2 := hH.slot 8 121 d8 l2; have g2 := hH.holds 8 l2; rw [r8] at g2; rw [g2] at e2; have hD := hH.glob; rw [hl] at hD; refine ⟨9, #[.pointer (some ⟨rp, 0, none⟩), .int .i64 h, .int .i64 xx], by simp [go_sem, e0, e1, e2], Calls.mono (HC2.out w rp rl hD.duo.r) ?_⟩; rintro e w2 ⟨rfl, hp2, hg2⟩; exact ⟨_, rfl, (r9 _ _).mpr rfl, fun j v _ h => K j v _ _ h, by rw [RV.more_self, RV.more_ne (L := L) (i := 9) (j := 4) (by decide)]; exact hD.turnR hp2 hg2⟩)) ?_
                  refine RV.AllDo.cons 10 (RV.does_pure (fun γ v L w hl h => by rw [RV.more_ne (L := L) (i := 10) (j := 4) (by decide), RV.more_ne (L := L) (i := 10) (j := 9) (by decide)]; exact h) (fun γ L a w hH hl hA => by have l0 : L 4 = true := hA ⟨4, .data⟩ (by simp) rfl; have e0 := hH.slot 4 117 d4 l0; have g0 := hH.holds 4 l0; rw [r4] at g0; rw [g0] at e0; have l1 : L 9 = true := hA ⟨9, .data⟩ (by simp) rfl; have e1 := hH.slot 9 122 d9 l1; have g1 := hH.holds 9 l1; rw [r9] at g1; rw [g1] at e1; exact ⟨.bool true, by simp [execOp, go_sem, e0, e1], (r10 _ _).mpr rfl⟩)) ?_
                  refine RV.AllDo.cons 11 (RV.does_pure (fun γ v L w hl h => by rw [RV.more_ne (L := L) (i := 11) (j := 4) (by decide), RV.more_ne (L := L) (i := 11) (j := 9) (by decide)]; exact h) (fun γ L a w hH hl hA => by have l0 : L 10 = true := hA ⟨10, .data⟩ (by simp) rfl; have e0 := hH.slot 10 123 d10 l0; have g0 := hH.holds 10 l0; rw [r10] at g0; rw [g0] at e0; exact ⟨.bool true, by simp [execOp, go_sem, e0], (r11 _ _).mpr rfl⟩)) ?_
                  exact RV.AllDo.nil
                · intro γ a5 w5 L9 hL hLo hH
                  have ha := RV.held_act hH hL (by kernel_rfl) (by kernel_rfl)
                  have hD := hH.glob
                  rw [hL 4 (by decide), hL 9 (by decide)] at hD
                  have q11 : γ 11 = .bool true := hH.holds 11 (hL 11 (by decide))
                  rw [ha]
                  clear ha hH hL hLo
                  simp only [RV.putAll, Act.put, List.setIfInBounds_toArray, List.set_cons_zero, List.set_cons_succ, Nat.zero_add, Nat.reduceAdd]
                  rw [q11]
                  go_wp2_with (fail)
                  go_meet
                  case rel => exact ⟨rfl, pp, pl, A2, o, c, td, rfl, rfl, by omega, HA2, HTD, hD.duo⟩
              · by_cases z2 : z = 2
                · subst z2
                  clear z6
                  obtain ⟨v, b, C1, C2⟩ := both_get A h hh
                  have HC1 : Hid _ := C1
                  have HC2 : Hid _ := C2
                  clear C1 C2
                  go_wp2_with (fail)
                  refine Calls.mono (HC1.out _ pp pl HX.out.duo.p) ?_
                  rintro e V1 ⟨rfl, rfl⟩
                  go_wp2_with (fail)
                  refine Calls.mono (HC2.out _ rp rl HX.out.duo.r) ?_
                  rintro e V1 ⟨rfl, rfl⟩
                  clear HC1 HC2
                  go_wp2_with (fail)
                  go_meet
                  case rel => exact ⟨by simp, pp, pl, A, o, c, td, rfl, rfl, by omega, HA0, HTD, HX.out.duo⟩
                · by_cases z3 : z = 3
                  · subst z3
                    clear z6 z2
                    obtain ⟨b, A2, hl2, C1, C2⟩ := both_set A h xx hh
                    have HA2 : Hid (0 < A2.length) := by show 0 < _; rw [hl2]; exact HA0.out
                    have HC1 : Hid _ := C1
                    have HC2 : Hid _ := C2
                    clear C1 C2 hl2
                    go_wp2_with (fail)
                    refine RV.region_by (fun j v w => match j with | 0 => v = .pointer (some ⟨pp, 0, none⟩) | 1 => v = .int .i64 h | 2 => v = .pointer (some ⟨xb, 2, none⟩) | 3 => v = .int .i64 xx | 4 => v = .bool b | 5 => v = .pointer (some ⟨rp, 0, none⟩) | 6 => v = .int .i64 h | 7 => v = .pointer (some ⟨xb, 2, none⟩) | 8 => v = .int .i64 xx | 9 => v = .bool b | 10 => v = .bool true | 11 => v = .bool true | _ => True) (fun γ L W => DuoX w0 W pp pl rp rl xb xo (bif L 4 then A2 else A) (bif L 9 then A2 else A) (.slice o td.length c) td) (by kernel_rfl) (by kernel_rfl) (by kernel_rfl) (by kernel_rfl) ?_ ?_ ?_
                    · exact HX.out.step (Below.refl _ _).drew
                    · generalize hD : dstOf _ = D
                      generalize hWA : waitsFor _ = WA
                      generalize hZ : Act.mk _ _ = Z
                      obtain ⟨R, hR⟩ : ∃ R : Nat → Value → World → Prop, R = (fun j v w => match j with | 0 => v = .pointer (some ⟨pp, 0, none⟩) | 1 => v = .int .i64 h | 2 => v = .pointer (some ⟨xb, 2, none⟩) | 3 => v = .int .i64 xx | 4 => v = .bool b | 5 => v = .pointer (some ⟨rp, 0, none⟩) | 6 => v = .int .i64 h | 7 => v = .pointer (some ⟨xb, 2, none⟩) | 8 => v = .int .i64 xx | 9 => v = .bool b | 10 => v = .bool true | 11 => v = .bool true | _ => True) := ⟨_, rfl⟩
                      rw [← hR]
                      have d0 : D 0 = some 148 := by rw [← hD]; rfl
                      have d1 : D 1 = some 149 := by rw [← hD]; rfl
                      have d2 : D 2 = some 150 := by rw [← hD]; rfl
                      have d3 : D 3 = some 151 := by rw [← hD]; rfl
                      have d4 : D 4 = some 152 := by rw [← hD]; rfl
                      have d5 : D 5 = some 153 := by rw [← hD]; rfl
                      have d6 : D 6 = some 154 := by rw [← hD]; rfl
                      have d7 : D 7 = some 155 := by rw [← hD]; rfl
                      have d8 : D 8 = some 156 := by rw [← hD]; rfl
                      have d9 : D 9 = some 157 := by rw [← hD]; rfl
                      have d10 : D 10 = some 158 := by rw [← hD]; rfl
                      have d11 : D 11 = some 14 := by rw [← hD]; rfl
                      have r0 : ∀ v w, R 0 v w = (v = .pointer (some ⟨pp, 0, none⟩)) := fun v w => by rw [hR]; rfl
                      have r1 : ∀ v w, R 1 v w = (v = .int .i64 h) := fun v w => by rw [hR]; rfl
                      have r2 : ∀ v w, R 2 v w = (v = .pointer (some ⟨xb, 2, none⟩)) := fun v w => by rw [hR]; rfl
                      have r3 : ∀ v w, R 3 v w = (v = .int .i64 xx) := fun v w => by rw [hR]; rfl
                      have r4 : ∀ v w, R 4 v w = (v = .bool b) := fun v w => by rw [hR]; rfl
                      have r5 : ∀ v w, R 5 v w = (v = .pointer (some ⟨rp, 0, none⟩)) := fun v w => by rw [hR]; rfl
                      have r6 : ∀ v w, R 6 v w = (v = .int .i64 h) := fun v w => by rw [hR]; rfl
                      have r7 : ∀ v w, R 7 v w = (v = .pointer (some ⟨xb, 2, none⟩)) := fun v w => by rw [hR]; rfl
                      have r8 : ∀ v w, R 8 v w = (v = .int .i64 xx) := fun v w => by rw [hR]; rfl
                      have r9 : ∀ v w, R 9 v w = (v = .bool b) := fun v w => by rw [hR]; rfl
                      have r10 : ∀ v w, R 10 v w = (v = .bool true) := fun v w => by rw [hR]; rfl
                      have r11 : ∀ v w, R 11 v w = (v = .bool true) := fun v w => by rw [hR]; rfl
                      have E6 : ∀ (γ : Nat → Value) (L : Nat → Bool) (a : Act) (w : World), RV.Held D WA R (fun γ L W => DuoX w0 W pp pl rp rl xb xo (bif L 4 then A2 else A) (bif L 9 then A2 else A) (.slice o td.length c) td) Z γ L a w → a.tmps[6]? = some (.pointer (some ⟨pp, 0, none⟩)) := fun γ L a w hH => (hH.rest 6 (by rw [← hD]; exact RV.dst_free (by kernel_rfl))).trans (by rw [← hZ]; rfl)
                      have E8 : ∀ (γ : Nat → Value) (L : Nat → Bool) (a : Act) (w : World), RV.Held D WA R (fun γ L W => DuoX w0 W pp pl rp rl xb xo (bif L 4 then A2 else A) (bif L 9 then A2 else A) (.slice o td.length c) td) Z γ L a w → a.tmps[8]? = some (.pointer (some ⟨rp, 0, none⟩)) := fun γ L a w hH => (hH.rest 8 (by rw [← hD]; exact RV.dst_free (by kernel_rfl))).trans (by rw [← hZ]; rfl)
                      have E12 : ∀ (γ : Nat → Value) (L : Nat → Bool) (a : Act) (w : World), RV.Held D WA R (fun γ L W => DuoX w0 W pp pl rp rl xb xo (bif L 4 then A2 else A) (bif L 9 then A2 else A) (.slice o td.length c) td) Z γ L a w → a.tmps[12]? = some (.pointer (some ⟨xb, 0, none⟩)) := fun γ L a w hH => (hH.rest 12 (by rw [← hD]; exact RV.dst_free (by kernel_rfl))).trans (by rw [← hZ]; rfl)
                      have E13 : ∀ (γ : Nat → Value) (L : Nat → Bool) (a : Act) (w : World), RV.Held D WA R (fun γ L W => DuoX w0 W pp pl rp rl xb xo (bif L 4 then A2 else A) (bif L 9 then A2 else A) (.slice o td.length c) td) Z γ L a w → a.tmps[13]? = some (.int .i64 h) := fun γ L a w hH => (hH.rest 13 (by rw [← hD]; exact RV.dst_free (by kernel_rfl))).trans (by rw [← hZ]; rfl)
                      have K : ∀ j v w w', R j v w → R j v w' := by rw [hR]; intro j v w w' h; exact h
                      clear hD hWA hZ hR
                      refine RV.AllDo.cons 0 (RV.does_pure (fun γ v L w hl h => by rw [RV.more_ne (L := L) (i := 0) (j := 4) (by decide), RV.more_ne (L := L) (i := 0) (j := 9) (by decide)]; exact h) (fun γ L a w hH hl hA => by have e0 := E6 γ L a w hH; exact ⟨.pointer (some ⟨pp, 0, none⟩), by simp [execOp, go_sem, e0], (r0 _ _).mpr rfl⟩)) ?_
                      refine RV.AllDo.cons 1 (RV.does_pure (fun γ v L w hl h => by rw [RV.more_ne (L := L) (i := 1) (j := 4) (by decide), RV.more_ne (L := L) (i := 1) (j := 9) (by decide)]; exact h) (fun γ L a w hH hl hA => by have e0 := E13 γ L a w hH; exact ⟨.int .i64 h, by simp [execOp, go_sem, e0], (r1 _ _).mpr rfl⟩)) ?_
                      refine RV.AllDo.cons 2 (RV.does_pure (fun γ v L w hl h => by rw [RV.more_ne (L := L) (i := 2) (j := 4) (by decide), RV.more_ne (L := L) (i := 2) (j := 9) (by decide)]; exact h) (fun γ L a w hH hl hA => by have e0 := E12 γ L a w hH; exact ⟨.pointer (some ⟨xb, 2, none⟩), by simp [execOp, go_sem, e0], (r2 _ _).mpr rfl⟩)) ?_
                      refine RV.AllDo.cons 3 (RV.does_pure (fun γ v L w hl h => by rw [RV.more_ne (L := L) (i := 3) (j := 4) (by decide), RV.more_ne (L := L) (i := 3) (j := 9) (by decide)]; exact h) (fun γ L a w hH hl hA => by have l0 : L 2 = true := hA ⟨2, .data⟩ (by simp) rfl; have e0 := hH.slot 2 150 d2 l0; have g0 := hH.holds 2 l0; rw [r2] at g0; rw [g0] at e0; have z := (HXC.out w hH.glob.box).2.2.1; exact ⟨.int .i64 xx, by simp [execOp, go_sem, e0, z], (r3 _ _).mpr rfl⟩)) ?_
                      refine RV.AllDo.cons 4 (RV.does_call (fun γ L a w hH hl hA => by have l0 : L 0 = true := hA ⟨0, .data⟩ (by simp) rfl; have e0 := hH.slot 0 148 d0 l0; have g0 := hH.holds 0 l0; rw [r0] at g0; rw [g0] at e0; have l1 : L 1 = true := hA ⟨1, .data⟩ (by simp) rfl; have e1 := hH.slot 1 149 d1 l1; have g1 := hH.holds 1 l1; rw [r1] at g1; rw [g1] at e1; have l2 : L 3 = true := hA ⟨3, .data⟩ (by simp) rfl; have e2 := hH.slot 3 151 d3 l2; have g2 := hH.holds 3 l2; rw [r3] at g2; rw [g2] at e2; have hD := hH.glob; rw [hl] at hD; refine ⟨12, #[.pointer (some ⟨pp, 0, none⟩), .int .i64 h, .int .i64 xx], by simp [go_sem, e0, e1, e2], Calls.mono (HC1.out w pp pl hD.duo.p) ?_⟩; rintro e w2 ⟨rfl, hp2, hg2⟩; exact ⟨_, rfl, (r4 _ _).mpr rfl, fun j v _ h => K j v _ _ h, by rw [RV.more_self, RV.more_ne (L := L) (i := 4) (j := 9) (by decide)]; exact hD.turnP hp2 hg2⟩)) ?_
                      refine RV.AllDo.cons 5 (RV.does_pure (fun γ v L w hl h => by rw [RV.more_ne (L := L) (i := 5) (j := 4) (by decide), RV.more_ne (L := L) (i := 5) (j := 9) (by decide)]; exact h) (fun γ L a w hH hl hA => by have e0 := E8 γ L a w hH; exact ⟨.pointer (some ⟨rp, 0, none⟩), by simp [execOp, go_sem, e0], (r5 _ _).mpr rfl⟩)) ?_
                      refine RV.AllDo.cons 6 (RV.does_pure (fun γ v L w hl h => by rw [RV.more_ne (L := L) (i := 6) (j := 4) (by decide), RV.more_ne (L := L) (i := 6) (j := 9) (by decide)]; exact h) (fun γ L a w hH hl hA => by have e0 := E13 γ L a w hH; exact ⟨.int .i64 h, by simp [execOp, go_sem, e0], (r6 _ _).mpr rfl⟩)) ?_
                      refine RV.AllDo.cons 7 (RV.does_pure (fun γ v L w hl h => by rw [RV.more_ne (L := L) (i := 7) (j := 4) (by decide), RV.more_ne (L := L) (i := 7) (j := 9) (by decide)]; exact h) (fun γ L a w hH hl hA => by have e0 := E12 γ L a w hH; exact ⟨.pointer (some ⟨xb, 2, none⟩), by simp [execOp, go_sem, e0], (r7 _ _).mpr rfl⟩)) ?_
                      refine RV.AllDo.cons 8 (RV.does_pure (fun γ v L w hl h => by rw [RV.more_ne (L := L) (i := 8) (j := 4) (by decide), RV.more_ne (L := L) (i := 8) (j := 9) (by decide)]; exact h) (fun γ L a w hH hl hA => by have l0 : L 7 = true := hA ⟨7, .data⟩ (by simp) rfl; have e0 := hH.slot 7 155 d7 l0; have g0 := hH.holds 7 l0; rw [r7] at g0; rw [g0] at e0; have z := (HXC.out w hH.glob.box).2.2.1; exact ⟨.int .i64 xx, by simp [execOp, go_sem, e0, z], (r8 _ _).mpr rfl⟩)) ?_
                      refine RV.AllDo.cons 9 (RV.does_call (fun γ L a w hH hl hA => by have l0 : L 5 = true := hA ⟨5, .data⟩ (by simp) rfl; have e0 := hH.slot 5 153 d5 l0; have g0 := hH.holds 5 l0; rw [r5] at g0; rw [g0] at e0; have l1 : L 6 = true := hA ⟨6, .data⟩ (by simp) rfl; have e1 := hH.slot 6 154 d6 l1; have g1 := hH.holds 6 l1; rw [r6] at g1; rw [g1] at e1; have l2 : L 8 = true := hA ⟨8, .data⟩ (by simp) rfl; have e2 := hH.slot 8 156 d8 l2; have g2 := hH.holds 8 l2; rw [r8] at g2; rw [g2] at e2; have hD := hH.glob; rw [hl] at hD; refine ⟨13, #[.pointer (some ⟨rp, 0, none⟩), .int .i64 h, .int .i64 xx], by simp [go_sem, e0, e1, e2], Calls.mono (HC2.out w rp rl hD.duo.r) ?_⟩; rintro e w2 ⟨rfl, hp2, hg2⟩; exact ⟨_, rfl, (r9 _ _).mpr rfl, fun j v _ h => K j v _ _ h, by rw [RV.more_self, RV.more_ne (L := L) (i := 9) (j := 4) (by decide)]; exact hD.turnR hp2 hg2⟩)) ?_
                      refine RV.AllDo.cons 10 (RV.does_pure (fun γ v L w hl h => by rw [RV.more_ne (L := L) (i := 10) (j := 4) (by decide), RV.more_ne (L := L) (i := 10) (j := 9) (by decide)]; exact h) (fun γ L a w hH hl hA => by have l0 : L 4 = true := hA ⟨4, .data⟩ (by simp) rfl; have e0 := hH.slot 4 152 d4 l0; have g0 := hH.holds 4 l0; rw [r4] at g0; rw [g0] at e0; have l1 : L 9 = true := hA ⟨9, .data⟩ (by simp) rfl; have e1 := hH.slot 9 157 d9 l1; have g1 := hH.holds 9 l1; rw [r9] at g1; rw [g1] at e1; exact ⟨.bool true, by simp [execOp, go_sem, e0, e1], (r10 _ _).mpr rfl⟩)) ?_
                      refine RV.AllDo.cons 11 (RV.does_pure (fun γ v L w hl h => by rw [RV.more_ne (L := L) (i := 11) (j := 4) (by decide), RV.more_ne (L := L) (i := 11) (j := 9) (by decide)]; exact h) (fun γ L a w hH hl hA => by have l0 : L 10 = true := hA ⟨10, .data⟩ (by simp) rfl; have e0 := hH.slot 10 158 d10 l0; have g0 := hH.holds 10 l0; rw [r10] at g0; rw [g0] at e0; exact ⟨.bool true, by simp [execOp, go_sem, e0], (r11 _ _).mpr rfl⟩)) ?_
                      exact RV.AllDo.nil
                    · intro γ a5 w5 L9 hL hLo hH
                      have ha := RV.held_act hH hL (by kernel_rfl) (by kernel_rfl)
                      have hD := hH.glob
                      rw [hL 4 (by decide), hL 9 (by decide)] at hD
                      have q11 : γ 11 = .bool true := hH.holds 11 (hL 11 (by decide))
                      rw [ha]
                      clear ha hH hL hLo
                      simp only [RV.putAll, Act.put, List.setIfInBounds_toArray, List.set_cons_zero, List.set_cons_succ, Nat.zero_add, Nat.reduceAdd]
                      rw [q11]
                      go_wp2_with (fail)
                      go_meet
                      case rel => exact ⟨rfl, pp, pl, A2, o, c, td, rfl, rfl, by omega, HA2, HTD, hD.duo⟩
                  · by_cases z4 : z = 4
                    · subst z4
                      clear z6 z2 z3
                      obtain ⟨b, A2, hl2, C1, C2⟩ := both_drop A h hh
                      have HA2 : Hid (0 < A2.length) := by show 0 < _; rw [hl2]; exact HA0.out
                      have HC1 : Hid _ := C1
                      have HC2 : Hid _ := C2
                      clear C1 C2 hl2
                      go_wp2_with (fail)
                      refine Calls.mono (HC1.out _ pp pl HX.out.duo.p) ?_
                      rintro e V1 ⟨rfl, hp2, hg2⟩
                      have HX1 : Hid _ := HX.out.turnP hp2 hg2
                      clear hp2 hg2 HX
                      go_wp2_with (fail)
                      refine Calls.mono (HC2.out _ rp rl HX1.out.duo.r) ?_
                      rintro e V2 ⟨rfl, hp2, hg2⟩
                      have HX2 : Hid _ := HX1.out.turnR hp2 hg2
                      clear hp2 hg2 HX1 HC1 HC2
                      go_wp2_with (fail)
                      go_meet
                      case rel => exact ⟨by simp, pp, pl, A2, o, c, td, rfl, rfl, by omega, HA2, HTD, HX2.out.duo⟩
                    · by_cases z5 : z = 5
                      · subst z5
                        clear z6 z2 z3 z4
                        go_wp2_with (fail)
                        refine Calls.mono (clone_any pp pl A _ HX.out.duo.p HA0.out) ?_
                        rintro e V1 ⟨pq, ql, rfl, hq1, hq2, hpq, hbq⟩
                        obtain ⟨l1, l2, l3, l4, l5⟩ := HX.out.duo.lts
                        have HX1 : Hid _ := HX.out.clone hpq hbq hq1 hq2
                        have HO : Hid (IsPool V1 pp pl A) := HX.out.duo.p.below hbq
                        have hbp := HX.out.duo.bp
                        have hn1' := HX.out.n1
                        have hd1 := HX.out.duo.d1
                        have hd2 := HX.out.duo.d2
                        have HTN : Hid _ := HX.out.duo.tn
                        have hsz := hbq.size
                        have hnq : pl ≠ ql ∧ pl ≠ pq := by omega
                        obtain ⟨hd, er, A2, hl2, _, C1, _⟩ := both_put A xx HX.out.duo.p
                        have HC1 : Hid _ := C1
                        clear C1 hpq hbq hq1 hq2 l1 l2 l3 l4 l5 HX hsz
                        have x2 := (HXC.out V1 HX1.out.box).2.2.1
                        go_wp2_with (fail)
                        refine Calls.mono (HC1.out _ pp pl HO.out) ?_
                        rintro e V2 ⟨rfl, hp2, hg2⟩
                        have HX2 : Hid _ := HX1.out.other hg2 hbp hnq.1 hnq.2 hd1 hd2 (fun k e => (HTN.out k e).1) hn1'
                        obtain ⟨b, A3, hl3, C2, _⟩ := both_drop A2 h hh
                        have HC2 : Hid _ := C2 V2 pp pl hp2
                        clear C2 hp2 hg2 HX1 HO HC1
                        go_wp2_with (fail)
                        refine Calls.mono HC2.out ?_
                        rintro e V3 ⟨rfl, hp3, hg3⟩
                        have HX3 : Hid _ := HX2.out.other hg3 hbp hnq.1 hnq.2 hd1 hd2 (fun k e => (HTN.out k e).1) hn1'
                        clear HC2 hp3 hg3 HX2 HTN
                        go_wp2_with (fail)
                        go_meet
                        case rel => exact ⟨rfl, pq, ql, A, o, c, td, rfl, rfl, by omega, HA0, HTD, HX3.out.duo⟩
                      · skip
                        have e6 : (z == 6) = false := beq_eq_false_iff_ne.2 z6
                        have e2 : (z == 2) = false := beq_eq_false_iff_ne.2 z2
                        have e3 : (z == 3) = false := beq_eq_false_iff_ne.2 z3
                        have e4 : (z == 4) = false := beq_eq_false_iff_ne.2 z4
                        have e5 : (z == 5) = false := beq_eq_false_iff_ne.2 z5
                        clear z6 z2 z3 z4 z5
                        obtain ⟨hd, er, A2, hl2, hhd, C1, C2⟩ := both_put A xx HX.out.duo.p
                        have HA2 : Hid (0 < A2.length) := by show 0 < _; rw [hl2]; exact HA0.out
                        have HC1 : Hid _ := C1
                        have HC2 : Hid _ := C2
                        clear C1 C2 hl2
                        go_wp2_with (fail)
                        refine Calls.mono (HC1.out _ pp pl HX.out.duo.p) ?_
                        rintro e V1 ⟨rfl, hp2, hg2⟩
                        have HX1 : Hid _ := HX.out.turnP hp2 hg2
                        have x2 := (HXC.out V1 HX1.out.box).2.2.1
                        clear hp2 hg2 HX
                        go_wp2_with (fail)
                        refine Calls.mono (HC2.out _ rp rl HX1.out.duo.r) ?_
                        rintro e V2 ⟨rfl, hp2, hg2⟩
                        have HX2 : Hid _ := (HX1.out.turnR hp2 hg2).duo
                        have hbase := HX2.out.below.size
                        clear hp2 hg2 HX1 HC1 HC2 x2
                        go_wp2_with (at_builtin; refine wpList_append_own_at _ rfl _ _ 31 rfl w0.heap.size 3 i0 _ 1 8 Try.underlying31 HI.out.1 HI.out.2.1 HI.out.2.2.1 HI.out.2.2.2 rfl (by decide) _ _ _ rfl (World.ownsRow.alloc HX2.out.t (.cells #[.int .i64 hd] 3)) ⟨V2.heap.size, 0, none⟩ 1 1 [.int .i64 hd] rfl rfl (cell_one_new V2 _ _) (by intro u hu; simp at hu; rw [hu]; rfl) (by unfold maxLen; omega) (by omega) (by simp; omega) ?_; intro u1 V3 r1 g1 _ b1; have HD3 : Hid _ := HX2.out.app r1 g1 b1; obtain ⟨oo1, cc1, rfl⟩ := num_row r1; clear r1 g1 b1)
                        go_meet
                        case rel => exact ⟨by simp, pp, pl, A2, oo1, cc1, td ++ [hd], rfl, by rw [List.length_append]; rfl, by rw [List.length_append]; simp; omega, HA2, (fun t ht => by
                          rcases List.mem_append.1 ht with ht | ht
                          · exact HTD.out t ht
                          · simp only [List.mem_singleton] at ht; rw [ht]; exact hhd), by rw [List.length_append]; exact HD3.out⟩
            case rest =>
              clear HX HXC x2
              obtain ⟨rfl, pp, pl, A, o, c, td, rfl, rfl, htd, HA0, HTD, HD⟩ := hcut
              go_wp2_with (fail)
              refine (same_any pp pl rp rl A _ HD.out.p HD.out.r).mono ?_
              rintro e V9 ⟨rfl, hb9⟩
              have HD9 : Hid _ := HD.out.step hb9
              rw [hw0] at HD9
              clear HD hb9
              go_wp2_with (fail)
              go_roundg (min len 300 - (k + 1))
              case measure => have := HG.out; omega
              case rel => exact ⟨k + 1, pp, pl, A, o, c, td, rfl, rfl, by go_num, by omega, by omega, htd, HA0, rfl, HTD, HD9⟩
      · have HB9 : Hid _ := HD.out.below
        clear HD hg
        go_wp2_with (fail)
        go_ret
        exact ⟨rfl, HB9.out⟩
    · have HB9 : Hid _ := HD.out.below
      clear HD hg
      go_wp2_with (fail)
      go_ret
      exact ⟨rfl, HB9.out⟩

/-- What the walk is told of a slice of steps that came in. -/
theorem steps_of {H : Type} {enc : TypeId × Value → H} {W : World} {base : Nat} {spare : Nat → Bool} {held : Bool} {a : Option Addr} {len cap fuel : Nat} {x : DataW H × List MemPlace}
    (h : DataW.trod enc Try.prog W base spare held fuel 22 [.slice a len cap] = some x) : len ≤ 9223372036854775807 ∧ ∃ (sw sn sx : Nat → Int) (sb : Nat → Bool),
      (len = 0 ∨ ∃ b off, a = some ⟨b, off, none⟩ ∧ ∀ i, i < len → W.cell? ⟨b, off + i * 4, none⟩ = some (.int .i64 (sw i)) ∧ W.cell? ⟨b, off + i * 4 + 1, none⟩ = some (.int .i64 (sn i)) ∧ W.cell? ⟨b, off + i * 4 + 2, none⟩ = some (.int .i64 (sx i)) ∧ W.cell? ⟨b, off + i * 4 + 3, none⟩ = some (.bool (sb i))) ∧
      ∀ i, i < len → (-9223372036854775808 ≤ sw i ∧ sw i ≤ 9223372036854775807) ∧ (-9223372036854775808 ≤ sn i ∧ sn i ≤ 9223372036854775807) := by
  rcases Deep.open_slice Try.underlying22 h with ⟨hcs, _⟩ | ⟨y, l, c, m, n, D, Pl, hcs, _, hl, hm, hmm, _, hx⟩
  · simp at hcs
    obtain ⟨rfl, rfl, rfl⟩ := hcs
    exact ⟨by omega, fun _ => 0, fun _ => 0, fun _ => 0, fun _ => false, Or.inl rfl, fun i hi => absurd hi (by omega)⟩
  · simp at hcs
    obtain ⟨rfl, rfl, rfl⟩ := hcs
    unfold maxLen at hm
    refine ⟨by omega, ?_⟩
    have hlm : len ≤ m := by rw [hmm]; split <;> omega
    have hc4 : Try.prog.cellsOf 33 = 4 := by kernel_rfl
    have hc1 : Try.prog.cellsOf 3 = 1 := by kernel_rfl
    have hc0 : Try.prog.cellsOf 4 = 1 := by kernel_rfl
    have each : ∀ i, i < len → ∃ (p q r : Int) (t : Bool), W.cell? ((y.add (i * 4)).add 0) = some (.int .i64 p) ∧ W.cell? ((y.add (i * 4)).add 1) = some (.int .i64 q) ∧ W.cell? ((y.add (i * 4)).add 2) = some (.int .i64 r) ∧ W.cell? ((y.add (i * 4)).add 3) = some (.bool t) ∧ (Lit.int .i64 p).wf = true ∧ (Lit.int .i64 q).wf = true := by
      intro i hi
      obtain ⟨cs', hcells, ht⟩ := hx i (by omega)
      rw [hc4] at hcells
      obtain ⟨_, hlen, hcell⟩ := World.cells?_some hcells
      obtain ⟨xs, k, _, _, _, hxl, hel⟩ := DataW.trod_struct Try.underlying33 ht
      have get : ∀ (v : Value) (j : Nat), ((cs'.drop j).take 1) = [v] → cs'[j]? = some v := fun v j h => by
        have h2 : ((cs'.drop j).take 1)[0]? = some v := by rw [h]; rfl
        simpa [List.getElem?_take, List.getElem?_drop] using h2
      have some_of : ∀ j, j < 4 → ∃ z, xs[j]? = some z := fun j hj => ⟨_, List.getElem?_eq_getElem (by rw [hxl]; exact hj)⟩
      have e0 := hel 0 _ rfl
      have e1 := hel 1 _ rfl
      have e2 := hel 2 _ rfl
      have e3 := hel 3 _ rfl
      obtain ⟨z0, hz0⟩ := some_of 0 (by omega)
      obtain ⟨z1, hz1⟩ := some_of 1 (by omega)
      obtain ⟨z2, hz2⟩ := some_of 2 (by omega)
      obtain ⟨z3, hz3⟩ := some_of 3 (by omega)
      rw [hz0] at e0
      rw [hz1] at e1
      rw [hz2] at e2
      rw [hz3] at e3
      obtain ⟨p, hp, _, wp⟩ := DataW.trod_int Try.underlying3 e0
      obtain ⟨q, hq, _, wq⟩ := DataW.trod_int Try.underlying3 e1
      obtain ⟨r, hr, _, _⟩ := DataW.trod_int Try.underlying3 e2
      obtain ⟨t, ht3, _⟩ := DataW.trod_bool Try.underlying4 e3
      have hp2 : (cs'.drop 0).take (Try.prog.cellsOf 3) = [.int .i64 p] := hp
      have hq2 : (cs'.drop 1).take (Try.prog.cellsOf 3) = [.int .i64 q] := hq
      have hr2 : (cs'.drop 2).take (Try.prog.cellsOf 3) = [.int .i64 r] := hr
      have ht4 : (cs'.drop 3).take (Try.prog.cellsOf 4) = [.bool t] := ht3
      rw [hc1] at hp2 hq2 hr2
      rw [hc0] at ht4
      exact ⟨p, q, r, t, (hcell 0 (by omega)).trans (get _ 0 hp2), (hcell 1 (by omega)).trans (get _ 1 hq2), (hcell 2 (by omega)).trans (get _ 2 hr2), (hcell 3 (by omega)).trans (get _ 3 ht4), wp, wq⟩
    have ch : ∃ (sw sn sx : Nat → Int) (sb : Nat → Bool), ∀ i, i < len → W.cell? ((y.add (i * 4)).add 0) = some (.int .i64 (sw i)) ∧ W.cell? ((y.add (i * 4)).add 1) = some (.int .i64 (sn i)) ∧ W.cell? ((y.add (i * 4)).add 2) = some (.int .i64 (sx i)) ∧ W.cell? ((y.add (i * 4)).add 3) = some (.bool (sb i)) ∧ (Lit.int .i64 (sw i)).wf = true ∧ (Lit.int .i64 (sn i)).wf = true := by
      refine ⟨fun i => if h : i < len then (each i h).choose else 0, fun i => if h : i < len then (each i h).choose_spec.choose else 0, fun i => if h : i < len then (each i h).choose_spec.choose_spec.choose else 0, fun i => if h : i < len then (each i h).choose_spec.choose_spec.choose_spec.choose else false, fun i hi => ?_⟩
      simp only [dif_pos hi]
      exact (each i hi).choose_spec.choose_spec.choose_spec.choose_spec
    obtain ⟨sw, sn, sx, sb, hall⟩ := ch
    refine ⟨sw, sn, sx, sb, ?_, fun i hi => ⟨?_, ?_⟩⟩
    · by_cases h0 : len = 0
      · exact Or.inl h0
      · right
        obtain ⟨b, off, spot⟩ := y
        have c0 := (hall 0 (by omega)).1
        have hs : spot = none := by simpa [Addr.add] using World.cell?_spot c0
        subst hs
        have ad : ∀ i j, ((⟨b, off, none⟩ : Addr).add (i * 4)).add j = ⟨b, off + i * 4 + j, none⟩ := fun i j => by
          unfold Addr.add
          split <;> split <;> simp_all
        refine ⟨b, off, rfl, fun i hi => ?_⟩
        obtain ⟨h0, h1, h2, h3, _⟩ := hall i hi
        rw [ad] at h0 h1 h2 h3
        exact ⟨h0, h1, h2, h3⟩
    · have := bounds_i64 (hall i hi).2.2.2.2.1
      omega
    · have := bounds_i64 (hall i hi).2.2.2.2.2
      omega

/-! ### The row's step, after the guide's template -/
set_option maxRecDepth 100000 in
theorem lifted (os : Os) (started : os.Started) (H : Type) (enc : TypeId × Value → H) :
    ReturnsInHanded {} Try.checked os 3 .any (Rows.poolPlaysSpec.pre6 enc Try.prog Try.f3 Rows.poolPlaysRow.domain false) (Rows.poolPlaysSpec.post enc Try.prog Try.f3 false true false false) := by
  refine returnsInHanded_of_change (C := Try.checked) own started (by kernel_rfl) Try.func3
    (ChangeSpec.witness6 (enc := enc) (C := Try.checked) false ⟨#[], #[.int .i64 0, .slice none 0 0], []⟩ 8 (by kernel_rfl) (by kernel_rfl) (by kernel_rfl) (by kernel_rfl)) ?_
  intro W base args ds gs before hval0 hW hcnd _
  have hval : ∀ (j : Nat) t v, Try.f3.params[j]? = some t → args[j]? = some v → Value.okWide Try.prog W .any base t v := hval0
  have hW' := hW
  obtain ⟨p, q, hA0, hV, rfl, hfz, hnd⟩ := hW
  have hA : DataW.TrodAll enc Try.prog W 0 (fun _ => true) true Try.f3.params.toList args.toList ds p := hA0
  rw [Try.params3] at hA hval
  obtain ⟨v0, vs0, d0, ds0, p0, q0, hargs, rfl, rfl, h0, r0⟩ := trodAll_cons hA
  obtain ⟨v1, vs1, d1, ds1, p1, q1, rfl, rfl, rfl, h1, r1⟩ := trodAll_cons r0
  obtain ⟨rfl, rfl, rfl⟩ := trodAll_nil r1
  obtain rfl : args = #[v0, v1] := by cases args; simp_all
  obtain ⟨rfl, rfl⟩ := trodVars_none hV
  obtain ⟨a0, rfl, rfl, rfl, w0⟩ := open_int Try.underlying3 (hval 0 3 v0 rfl rfl) h0
  obtain ⟨a1, len1, cap1, rfl⟩ := okWide_slice Try.underlying22 (hval 1 22 v1 rfl rfl)
  have k1 := h1
  have lt1 : ∀ x ∈ p1, x.block < W.heap.size := by obtain ⟨m, hm⟩ := k1; exact DataW.trod_lt m _ _ _ hm
  obtain ⟨fuel, hf⟩ := h1
  obtain ⟨hl1, sw, sn, sx, sb, hs, hw⟩ := steps_of (enc := enc) (by simpa [Value.cells] using hf)
  have hb0 := bounds_i64 w0
  clear hA0 hval0
  refine (walk a1 len1 cap1 sw sn sx sb a0 W hl1 hs hw (by omega) (by omega)).mono fun e W' ⟨he, bel⟩ => ?_
  subst he
  exact ⟨_, rfl, _, _, _, [], _, [], hW', trodAll_mk1 (shut_bool Try.underlying4 _), (trodAll_cons_mk (shut_int Try.underlying3 w0) (trodAll_cons_mk (Below.trod laidOut (by kernel_rfl) (of_decide_eq_true (by kernel_rfl)) k1 bel lt1) trodAll_mk0)), rfl, bel.frame _, fun h => by cases h⟩

theorem over : Rows.poolPlaysRow.holds Try.pinned (OpenSpec.ofChange Rows.poolPlaysSpec) :=
  OpenClaim.holds_of_wide 3 Try.f3 rfl rfl rfl rfl rfl rfl rfl ⟨rfl, rfl, rfl, rfl, rfl⟩ rfl rfl rfl rfl rfl (by kernel_rfl) Try.func3 (by kernel_rfl)
    (of_decide_eq_true (by kernel_rfl)) (by unfold Func.isWrapper; first | (rw [if_pos (by decide +kernel)]; kernel_rfl) | (rw [if_neg (by decide +kernel)]; exact ⟨rfl, rfl⟩))
    (fun os started H enc _ => lifted os started H enc)

end poolPlays

theorem poolPlays_holds : Rows.PoolPlaysSaid := poolPlays.over
#print axioms poolPlays_holds
end Go.Proofs.Ytoocenbmggfodaa
