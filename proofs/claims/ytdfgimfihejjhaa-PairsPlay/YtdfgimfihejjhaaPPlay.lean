/- PairsPlay: for every room and every script of steps the law answers true: a set answers every script of its calls as the document's own answer does. No conditions. -/
import Derived.Test.YtdfgimfihejjhaaPairV
import Derived.Test.YtdfgimfihejjhaaRegV
import Derived.Deep.CutBlock
namespace Go.Proofs.Ytdfgimfihejjhaa
namespace pairsPlay
open Go.ChangeShapes Go.WideShapes Go.ChangeAt Go.RowKit Go.Shelf
set_option linter.unusedVariables false

theorem own : ownKnob Try.prog.godebug = none := by kernel_rfl
theorem laidOut : laidOutB Try.prog = true := by kernel_rfl
theorem off_ne {a b : Nat} (h : a ≠ b) : Off a nov b nov := by
  rintro c (rfl | h1) (rfl | h2)
  · exact h rfl
  · cases h2
  · cases h1
  · cases h1
theorem arr2 {x y : Value} {cs : Array Value} (h : cs.size = (#[x, y] : Array Value).size) : ∃ a b, cs = #[a, b] := by
  obtain ⟨l⟩ := cs
  match l, h with
  | [a, b], _ => exact ⟨a, b, rfl⟩
theorem cell_far (w : World) (p a : Addr) (v : Value) (h : a.block ≠ p.block) : (w.setCell p v).cell? a = w.cell? a := World.cell?_of_block (w := w) (Below.heap_setCell w p v a.block h)
/-- What a round does to the list. -/
def turnL (n : Nat) (A : List Pr) (p : Pr) (r : Int) : List Pr := if r = 3 then A.filter (fun q => decide (q ≠ p)) else if r = 4 then A.filter (fun q => !ofH p.a q) else putL n A p

set_option maxRecDepth 100000 in
set_option maxHeartbeats 16000000 in
theorem walk (a : Option Addr) (len cap : Nat) (sw sn sx : Nat → Int) (sb : Nat → Bool) (room : Int) (w : World) (hl : len ≤ 9223372036854775807)
    (hs : len = 0 ∨ ∃ b off, a = some ⟨b, off, none⟩ ∧ ∀ i, i < len → w.cell? ⟨b, off + i * 4, none⟩ = some (.int .i64 (sw i)) ∧ w.cell? ⟨b, off + i * 4 + 1, none⟩ = some (.int .i64 (sn i)) ∧ w.cell? ⟨b, off + i * 4 + 2, none⟩ = some (.int .i64 (sx i)) ∧ w.cell? ⟨b, off + i * 4 + 3, none⟩ = some (.bool (sb i)))
    (hw : ∀ i, i < len → (-9223372036854775808 ≤ sw i ∧ sw i ≤ 9223372036854775807) ∧ (-9223372036854775808 ≤ sn i ∧ sn i ≤ 9223372036854775807) ∧ (-9223372036854775808 ≤ sx i ∧ sx i ≤ 9223372036854775807))
    (h0 : -9223372036854775808 ≤ room) (h1 : room ≤ 9223372036854775807) :
    Calls Try.prog 3 #[.int .i64 room, .slice a len cap] w fun e w' => e = .returned (.bool true) ∧ Below w.heap.size w w' := by
  have HIN : Hid _ := hs
  have HBD : Hid _ := hw
  clear hs hw
  by_cases hr : room < 1 ∨ 4096 < room
  · go_enter Try.func3, Try.ntmps3
    go_wp2_with (fail)
    refine (awake_any _).mono ?_
    rintro e W1 ⟨rfl, hb1⟩
    have HB1 : Hid (Below w.heap.size w W1) := hb1
    clear hb1
    go_wp2_with (fail)
    refine (new_no room W1 hr).mono ?_
    rintro e W2 ⟨rfl, rfl⟩
    go_wp2_with (fail)
    refine (rnew_no room _ hr).mono ?_
    rintro e W2 ⟨rfl, rfl⟩
    clear hr
    go_wp2_with (fail)
    refine (new_yes 8 w.heap.size _ (by omega) (by omega)).mono ?_
    rintro e W3 ⟨tt, rfl, htt0, ht, hb⟩
    have HB3 : Hid _ := HB1.out.trans (hb.mono HB1.out.size)
    clear ht hb HB1
    go_wp2_with (fail)
    refine (rnew_yes 8 w.heap.size _ (by omega) (by omega)).mono ?_
    rintro e W4 ⟨qq, rfl, hqq0, hq, hb⟩
    have HB4 : Hid _ := HB3.out.trans (hb.mono HB3.out.size)
    clear hq hb HB3
    go_wp2_with (fail)
    go_ret
    exact ⟨rfl, HB4.out⟩
  obtain ⟨n, rfl⟩ : ∃ n : Nat, room = (n : Int) := ⟨room.toNat, by omega⟩
  have hn1 : 1 ≤ n := by omega
  have hn2 : n ≤ 4096 := by omega
  clear hr
  go_enter Try.func3, Try.ntmps3
  go_wp2_with (fail)
  refine (awake_any _).mono ?_
  rintro e W1 ⟨rfl, hb1⟩
  have HB1 : Hid (Below w.heap.size w W1) := hb1
  clear hb1
  go_wp2_with (fail)
  refine (new_yes n w.heap.size W1 hn1 hn2).mono ?_
  rintro e W2 ⟨ss, rfl, hss0, hs, hb⟩
  have hss : w.heap.size ≤ ss := Nat.le_trans HB1.out.size hss0
  have HB : Hid (Below w.heap.size w W2) := HB1.out.trans (hb.mono HB1.out.size)
  have hsl : ss < W2.heap.size := hs.lt
  have HS : Hid _ := hs
  clear hs hb hss0 HB1
  go_wp2_with (fail)
  refine (rnew_yes n w.heap.size W2 hn1 hn2).mono ?_
  rintro e W3 ⟨rr, rfl, hrr0, hr, hb⟩
  have HS3 : Hid _ := HS.out.below hb
  have HB3 : Hid (Below w.heap.size w W3) := HB.out.trans (hb.mono HB.out.size)
  have hrr : w.heap.size ≤ rr := Nat.le_trans HB.out.size hrr0
  have hrl : rr < W3.heap.size := hr.lt
  have HR : Hid _ := hr
  clear hr hb HS HB
  go_wp2_with (fail)
  refine (new_yes 8 w.heap.size W3 (by omega) (by omega)).mono ?_
  rintro e W4 ⟨tt, rfl, htt0, ht, hb⟩
  have HS4 : Hid _ := HS3.out.below hb
  have HR4 : Hid _ := HR.out.below hb
  have HB4 : Hid (Below w.heap.size w W4) := HB3.out.trans (hb.mono HB3.out.size)
  have htt : w.heap.size ≤ tt := Nat.le_trans HB3.out.size htt0
  have htl : tt < W4.heap.size := ht.lt
  have HT : Hid _ := ht
  clear ht hb HS3 HB3 HR
  go_wp2_with (fail)
  refine (rnew_yes 8 w.heap.size W4 (by omega) (by omega)).mono ?_
  rintro e W5 ⟨qq, rfl, hqq0, hq, hb⟩
  have hqq : w.heap.size ≤ qq := Nat.le_trans HB4.out.size hqq0
  have HQ : Hid (Quad w W5 ss tt rr qq nov nov nov nov n 8 [] [] [] []) := ⟨HS4.out.below hb, HT.out.below hb, HR4.out.below hb, hq, HB4.out.trans (hb.mono HB4.out.size), hss, htt, hrr, hqq, off_ne (by omega), off_ne (by omega), off_ne (by omega), off_ne (by omega), off_ne (by omega), off_ne (by omega)⟩
  clear hq hb HS4 HB4 HR4 HT hsl hrl htl htt0 hrr0 hqq0 hss htt hrr hqq
  go_wp2_with (fail)
  go_loopg [6, 8, 10, 12, 14] (min len 200) (fun g s6 s8 s10 s12 i wr => ∃ (k ss tt rr qq n m : Nat) (vs vt vr vq : Value) (A B : List Pr), s6 = .pointer (some ⟨ss, 0, none⟩) ∧ s8 = .pointer (some ⟨rr, 0, none⟩) ∧ s10 = .pointer (some ⟨tt, 0, none⟩) ∧ s12 = .pointer (some ⟨qq, 0, none⟩) ∧ i = .int .i64 (k : Int) ∧ k ≤ len ∧ k ≤ 200 ∧ g = min len 200 - k ∧ Hid (Quad w wr ss tt rr qq vs vt vr vq n m A A B B))
  case atStart => exact ⟨0, ss, tt, rr, qq, n, 8, _, _, _, _, [], [], rfl, rfl, rfl, rfl, rfl, Nat.zero_le _, Nat.zero_le _, rfl, HQ⟩
  case round =>
    clear HQ
    obtain ⟨k, ss, tt, rr, qq, n, m, vs, vt, vr, vq, A, B, rfl, rfl, rfl, rfl, rfl, hk1, hk2, hg, HQ⟩ := hrel
    by_cases hlt : k < len
    · by_cases hlt2 : k < 200
      · rcases HIN.out with e0 | ⟨b, off, rfl, hc⟩
        · omega
        obtain ⟨c0, c1, c2, c3⟩ := hc k hlt
        obtain ⟨⟨b0, b0'⟩, ⟨b1, b1'⟩, ⟨b2, b2'⟩⟩ := HBD.out k hlt
        have c0 := (HQ.out.below.cell (World.block_lt_of_cell? _ _ c0)).trans c0
        have c1 := (HQ.out.below.cell (World.block_lt_of_cell? _ _ c1)).trans c1
        have c2 := (HQ.out.below.cell (World.block_lt_of_cell? _ _ c2)).trans c2
        have c3 := (HQ.out.below.cell (World.block_lt_of_cell? _ _ c3)).trans c3
        clear hc
        generalize sw k = xw at *
        generalize sn k = xa at *
        generalize sx k = xc at *
        generalize sb k = xf at *
        have HG : Hid _ := hg
        clear hg
        go_upto_region 14 with fail
        obtain ⟨W0, hW0⟩ : ∃ W, W = wr.alloc (.cells #[.int .i64 xw, .int .i64 xa, .int .i64 xc, .bool xf] 32) := ⟨_, rfl⟩
        obtain ⟨xb, hxe⟩ : ∃ b, b = wr.heap.size := ⟨_, rfl⟩
        rw [← hW0, ← hxe]
        have HQ0 : Hid (Quad w W0 ss tt rr qq vs vt vr vq n m A A B B) := by rw [hW0]; exact HQ.out.step ((Below.refl _ wr).alloc (Nat.le_refl _) _)
        have hxb : xb < W0.heap.size := by rw [hW0, hxe]; simp
        have x0 : W0.cell? ⟨xb, 0, none⟩ = some (.int .i64 xw) := by rw [hW0, hxe]; simp [go_sem]
        have x1 : W0.cell? ⟨xb, 1, none⟩ = some (.int .i64 xa) := by rw [hW0, hxe]; simp [go_sem]
        have x2 : W0.cell? ⟨xb, 2, none⟩ = some (.int .i64 xc) := by rw [hW0, hxe]; simp [go_sem]
        have x3 : W0.cell? ⟨xb, 3, none⟩ = some (.bool xf) := by rw [hW0, hxe]; simp [go_sem]
        clear c0 c1 c2 c3 hW0 hxe HQ
        go_cut [16] from 63 to 209 (fun s16 wx => ∃ pb : Nat, s16 = .pointer (some ⟨pb, 0, none⟩) ∧ Hid (Five w wx ss tt rr qq pb vs vt vr vq n m A A B B ⟨min (pickZ xa 6) (pickZ xc 6), max (pickZ xa 6) (pickZ xc 6)⟩) ∧ wx.cell? ⟨xb, 0, none⟩ = some (.int .i64 xw) ∧ wx.cell? ⟨xb, 1, none⟩ = some (.int .i64 xa) ∧ wx.cell? ⟨xb, 2, none⟩ = some (.int .i64 xc) ∧ wx.cell? ⟨xb, 3, none⟩ = some (.bool xf) ∧ W0.heap.size ≤ wx.heap.size)
        case first =>
          refine RV.region_by (fun j v w => match j with | 0 => v = .pointer (some ⟨xb, 1, none⟩) | 1 => v = .int .i64 xa | 2 => v = .int .i64 (pickZ xa 6) | 3 => v = .pointer (some ⟨xb, 2, none⟩) | 4 => v = .int .i64 xc | 5 => v = .int .i64 (pickZ xc 6) | 6 => v = .agg #[.int .i64 (min (pickZ xa 6) (pickZ xc 6)), .int .i64 (max (pickZ xa 6) (pickZ xc 6))] | 7 => True | 8 => True | _ => True) (fun γ L w => Below W0.heap.size W0 w ∧ RV.Pend W0 35 7 8 #[.int .i64 (min (pickZ xa 6) (pickZ xc 6)), .int .i64 (max (pickZ xa 6) (pickZ xc 6))] γ L w) (by kernel_rfl) (by kernel_rfl) (by kernel_rfl) (by kernel_rfl) ?_ ?_ ?_
          · exact ⟨(Below.refl _ W0).drew, RV.Pend.start rfl⟩
          · generalize hD : dstOf _ = D
            generalize hWA : waitsFor _ = WA
            generalize hZ : Act.mk _ _ = Z
            obtain ⟨R, hR⟩ : ∃ R : Nat → Value → World → Prop, R = (fun j v w => match j with | 0 => v = .pointer (some ⟨xb, 1, none⟩) | 1 => v = .int .i64 xa | 2 => v = .int .i64 (pickZ xa 6) | 3 => v = .pointer (some ⟨xb, 2, none⟩) | 4 => v = .int .i64 xc | 5 => v = .int .i64 (pickZ xc 6) | 6 => v = .agg #[.int .i64 (min (pickZ xa 6) (pickZ xc 6)), .int .i64 (max (pickZ xa 6) (pickZ xc 6))] | 7 => True | 8 => True | _ => True) := ⟨_, rfl⟩
            rw [← hR]
            have d0 : D 0 = some 77 := by rw [← hD]; rfl
            have d1 : D 1 = some 78 := by rw [← hD]; rfl
            have d2 : D 2 = some 79 := by rw [← hD]; rfl
            have d3 : D 3 = some 80 := by rw [← hD]; rfl
            have d4 : D 4 = some 81 := by rw [← hD]; rfl
            have d5 : D 5 = some 82 := by rw [← hD]; rfl
            have d6 : D 6 = some 83 := by rw [← hD]; rfl
            have d7 : D 7 = some 16 := by rw [← hD]; rfl
            have r0 : ∀ v w, R 0 v w = (v = .pointer (some ⟨xb, 1, none⟩)) := fun v w => by rw [hR]; rfl
            have r1 : ∀ v w, R 1 v w = (v = .int .i64 xa) := fun v w => by rw [hR]; rfl
            have r2 : ∀ v w, R 2 v w = (v = .int .i64 (pickZ xa 6)) := fun v w => by rw [hR]; rfl
            have r3 : ∀ v w, R 3 v w = (v = .pointer (some ⟨xb, 2, none⟩)) := fun v w => by rw [hR]; rfl
            have r4 : ∀ v w, R 4 v w = (v = .int .i64 xc) := fun v w => by rw [hR]; rfl
            have r5 : ∀ v w, R 5 v w = (v = .int .i64 (pickZ xc 6)) := fun v w => by rw [hR]; rfl
            have r6 : ∀ v w, R 6 v w = (v = .agg #[.int .i64 (min (pickZ xa 6) (pickZ xc 6)), .int .i64 (max (pickZ xa 6) (pickZ xc 6))]) := fun v w => by rw [hR]; rfl
            have r7 : ∀ v w, R 7 v w = (True) := fun v w => by rw [hR]; rfl
            have r8 : ∀ v w, R 8 v w = (True) := fun v w => by rw [hR]; rfl
            have E15 : ∀ (γ : Nat → Value) (L : Nat → Bool) (a : Act) (w : World), RV.Held D WA R (fun γ L w => Below W0.heap.size W0 w ∧ RV.Pend W0 35 7 8 #[.int .i64 (min (pickZ xa 6) (pickZ xc 6)), .int .i64 (max (pickZ xa 6) (pickZ xc 6))] γ L w) Z γ L a w → a.tmps[15]? = some (.pointer (some ⟨xb, 0, none⟩)) := fun γ L a w hH => (hH.rest 15 (by rw [← hD]; exact RV.dst_free (by kernel_rfl))).trans (by rw [← hZ]; rfl)
            have K : ∀ j v w w', R j v w → R j v w' := by rw [hR]; intro j v w w' h; exact h
            have A_8_7 : WA 8 7 := by rw [← hWA]; exact ⟨_, rfl, ⟨7, .data⟩, by simp, rfl, rfl⟩
            clear hD hWA hZ hR
            refine RV.AllDo.cons 0 (RV.does_pure (fun γ v L w hl h => ⟨h.1, h.2.other v (by decide) (by decide)⟩) (fun γ L a w hH hl hA => by have e0 := E15 γ L a w hH; exact ⟨.pointer (some ⟨xb, 1, none⟩), by simp [execOp, go_sem, e0], (r0 _ _).mpr rfl⟩)) ?_
            refine RV.AllDo.cons 1 (RV.does_pure (fun γ v L w hl h => ⟨h.1, h.2.other v (by decide) (by decide)⟩) (fun γ L a w hH hl hA => by have l0 : L 0 = true := hA ⟨0, .data⟩ (by simp) rfl; have e0 := hH.slot 0 77 d0 l0; have g0 := hH.holds 0 l0; rw [r0] at g0; rw [g0] at e0; have zx1 := (hH.glob.1.cell (p := ⟨xb, 1, none⟩) hxb).trans x1; exact ⟨.int .i64 xa, by simp [execOp, go_sem, e0, zx1], (r1 _ _).mpr rfl⟩)) ?_
            refine RV.AllDo.cons 2 (RV.does_call (fun γ L a w hH hl hA => by have l0 : L 1 = true := hA ⟨1, .data⟩ (by simp) rfl; have e0 := hH.slot 1 78 d1 l0; have g0 := hH.holds 1 l0; rw [r1] at g0; rw [g0] at e0; exact ⟨8, #[.int .i64 xa, .int .i64 6], by simp [go_sem, e0], (pick_any xa 6 w (by omega) (by omega) (by omega) (by omega)).mono (by rintro e w2 ⟨rfl, rfl⟩; exact ⟨_, rfl, (r2 _ _).mpr rfl, fun _ _ _ h => h, hH.glob.1, hH.glob.2.other _ (by decide) (by decide)⟩)⟩)) ?_
            refine RV.AllDo.cons 3 (RV.does_pure (fun γ v L w hl h => ⟨h.1, h.2.other v (by decide) (by decide)⟩) (fun γ L a w hH hl hA => by have e0 := E15 γ L a w hH; exact ⟨.pointer (some ⟨xb, 2, none⟩), by simp [execOp, go_sem, e0], (r3 _ _).mpr rfl⟩)) ?_
            refine RV.AllDo.cons 4 (RV.does_pure (fun γ v L w hl h => ⟨h.1, h.2.other v (by decide) (by decide)⟩) (fun γ L a w hH hl hA => by have l0 : L 3 = true := hA ⟨3, .data⟩ (by simp) rfl; have e0 := hH.slot 3 80 d3 l0; have g0 := hH.holds 3 l0; rw [r3] at g0; rw [g0] at e0; have zx2 := (hH.glob.1.cell (p := ⟨xb, 2, none⟩) hxb).trans x2; exact ⟨.int .i64 xc, by simp [execOp, go_sem, e0, zx2], (r4 _ _).mpr rfl⟩)) ?_
            refine RV.AllDo.cons 5 (RV.does_call (fun γ L a w hH hl hA => by have l0 : L 4 = true := hA ⟨4, .data⟩ (by simp) rfl; have e0 := hH.slot 4 81 d4 l0; have g0 := hH.holds 4 l0; rw [r4] at g0; rw [g0] at e0; exact ⟨8, #[.int .i64 xc, .int .i64 6], by simp [go_sem, e0], (pick_any xc 6 w (by omega) (by omega) (by omega) (by omega)).mono (by rintro e w2 ⟨rfl, rfl⟩; exact ⟨_, rfl, (r5 _ _).mpr rfl, fun _ _ _ h => h, hH.glob.1, hH.glob.2.other _ (by decide) (by decide)⟩)⟩)) ?_
            refine RV.AllDo.cons 6 (RV.does_call (fun γ L a w hH hl hA => by have l0 : L 2 = true := hA ⟨2, .data⟩ (by simp) rfl; have e0 := hH.slot 2 79 d2 l0; have g0 := hH.holds 2 l0; rw [r2] at g0; rw [g0] at e0; have l1 : L 5 = true := hA ⟨5, .data⟩ (by simp) rfl; have e1 := hH.slot 5 82 d5 l1; have g1 := hH.holds 5 l1; rw [r5] at g1; rw [g1] at e1; exact ⟨7, #[.int .i64 (pickZ xa 6), .int .i64 (pickZ xc 6)], by simp [go_sem, e0, e1], (of_any (pickZ xa 6) (pickZ xc 6) w).mono (by rintro e w2 ⟨rfl, hb⟩; exact ⟨_, rfl, (r6 _ _).mpr rfl, fun j v _ h => K j v _ _ h, hH.glob.1.trans (hb.mono hH.glob.1.size), (hH.glob.2.below hb).other _ (by decide) (by decide)⟩)⟩)) ?_
            refine RV.AllDo.cons 7 (RV.does_step (fun γ L a w hH hl hA => by have h8 : L 8 = false := RV.not_yet hH A_8_7 hl; exact ⟨.pointer (some ⟨w.heap.size, 0, none⟩), w.alloc (.cells #[.int .i64 0, .int .i64 0] 35), by simp [execOp, go_sem], (r7 _ _).mpr trivial, fun j v _ h => K j v _ _ h, hH.glob.1.alloc hH.glob.1.size _, RV.Pend.made _ rfl hH.glob.1.size h8 (by decide)⟩)) ?_
            refine RV.AllDo.cons 8 (RV.does_store (fun γ L a w hH hl hA => by have l0 : L 7 = true := hA ⟨7, .data⟩ (by simp) rfl; have e0 := hH.slot 7 16 d7 l0; have g0 := hH.holds 7 l0; rw [r7] at g0; have l1 : L 6 = true := hA ⟨6, .data⟩ (by simp) rfl; have e1 := hH.slot 6 83 d6 l1; have g1 := hH.holds 6 l1; rw [r6] at g1; rw [g1] at e1; obtain ⟨b, cs, hb1, hb2, hb3, hb4, _⟩ := hH.glob.2 l0; rw [hb1] at e0; obtain ⟨x, y, rfl⟩ := arr2 hb4; have z0 : w.cell? ⟨b, 0, none⟩ = some x := (by simp [World.cell?, hb3]); have z1 : w.cell? ⟨b, 1, none⟩ = some y := (by simp [World.cell?, hb3]); have zf : ∀ o, w.frozen? ⟨b, o, none⟩ = false := fun o => (by simp [World.frozen?, hb3]); exact ⟨(w.setCell ⟨b, 0, none⟩ (.int .i64 (min (pickZ xa 6) (pickZ xc 6)))).setCell ⟨b, 1, none⟩ (.int .i64 (max (pickZ xa 6) (pickZ xc 6))), by simp [execOp, go_sem, e0, e1, z0, z1, zf], (r8 _ _).mpr trivial, fun j v _ h => K j v _ _ h, (hH.glob.1.setCell hb2 _).setCell hb2 _, RV.Pend.filled hb1 hb2 (by have q1 := Go.heap_setCell_same w b 0 _ _ (.int .i64 (min (pickZ xa 6) (pickZ xc 6))) hb3; have q2 := Go.heap_setCell_same _ b 1 _ _ (.int .i64 (max (pickZ xa 6) (pickZ xc 6))) q1; simpa using q2) (by decide) _⟩)) ?_
            exact RV.AllDo.nil
          · intro γ a5 w5 L9 hL hLo hH
            have ha := RV.held_act hH hL (by kernel_rfl) (by kernel_rfl)
            obtain ⟨b, cs, hb1, hb2, hb3, _, hb5⟩ := hH.glob.2 (hL 7 (by decide))
            rw [hb5 (hL 8 (by decide))] at hb3
            have hB5 := hH.glob.1
            rw [ha]
            clear ha hH hL hLo
            simp only [RV.putAll, Act.put, List.setIfInBounds_toArray, List.set_cons_zero, List.set_cons_succ, Nat.zero_add, Nat.reduceAdd]
            rw [hb1]
            go_wp2_with (fail)
            go_meet
            case rel => exact ⟨b, rfl, Five.new HQ0.out hB5 hb2 hb3, (hB5.cell (p := ⟨xb, 0, none⟩) hxb).trans x0, (hB5.cell (p := ⟨xb, 1, none⟩) hxb).trans x1, (hB5.cell (p := ⟨xb, 2, none⟩) hxb).trans x2, (hB5.cell (p := ⟨xb, 3, none⟩) hxb).trans x3, hB5.size⟩
        case rest =>
          clear x0 x1 x2 x3
          obtain ⟨pb, rfl, HF, x0, x1, x2, x3, hsz⟩ := hcut
          have hxb1 : xb < wc.heap.size := Nat.lt_of_lt_of_le hxb hsz
          obtain ⟨p0', hp0⟩ : ∃ q : Pr, q = ⟨min (pickZ xa 6) (pickZ xc 6), max (pickZ xa 6) (pickZ xc 6)⟩ := ⟨_, rfl⟩
          have hord : p0'.a ≤ p0'.b := by rw [hp0]; show min _ _ ≤ max _ _; omega
          rw [← hp0] at HF
          clear hp0
          have p0 := HF.out.c0
          have p1 := HF.out.c1
          have fz : ∀ o, wc.frozen? ⟨pb, o, none⟩ = false := fun o => by simp [World.frozen?, HF.out.box]
          have hpx : pb ≠ xb := fun e => by subst e; have := HF.out.box; simp [World.cell?, this] at x3
          obtain ⟨V0, hV0⟩ : ∃ V, V = wc := ⟨_, rfl⟩
          go_upto_if 85 with fail
          go_cut [] from 63 to 209 (fun wx => ∃ p : Pr, (xf = false → p.a ≤ p.b) ∧ Hid (Five w wx ss tt rr qq pb vs vt vr vq n m A A B B p) ∧ wx.cell? ⟨xb, 0, none⟩ = some (.int .i64 xw) ∧ wx.cell? ⟨xb, 3, none⟩ = some (.bool xf) ∧ V0.heap.size ≤ wx.heap.size)
          case first =>
            cases xf with
            | false =>
              go_wp2_with (fail)
              go_meet
              case rel => exact ⟨p0', fun _ => hord, HF, x0, x3, by rw [hV0]; exact Nat.le_refl _⟩
            | true =>
              go_wp2_with (fail)
              go_meet
              case rel =>
                refine ⟨⟨xa, xc⟩, (fun h => by cases h), HF.out.put (((Ch.of_below (Below.refl _ _) _ _).store _ _).store _ _) ⟨xa, xc⟩ ?_, ?_, ?_, ?_⟩
                · have q1 := Go.heap_setCell_same wc pb 0 _ _ (.int .i64 xa) HF.out.box
                  have q2 := Go.heap_setCell_same _ pb 1 _ _ (.int .i64 xc) q1
                  simpa using q2
                · rw [cell_far _ _ _ _ hpx.symm, cell_far _ _ _ _ hpx.symm]; exact x0
                · rw [cell_far _ _ _ _ hpx.symm, cell_far _ _ _ _ hpx.symm]; exact x3
                · rw [hV0]; simp [World.setCell]
          case rest =>
            clear HF x0 x1 x2 x3 p0 p1 fz hord
            obtain ⟨⟨pa, pq⟩, hord, HF, x0, x3, hsz1⟩ := hcut
            have p0 := HF.out.c0
            have p1 := HF.out.c1
            have hpb := HF.out.lt
            have hxb : xb < wc.heap.size := Nat.lt_of_lt_of_le hxb1 (by rw [← hV0]; exact hsz1)
            clear hxb1 hsz1 hV0 hpx hsz
            go_upto_region 17 with fail
            obtain ⟨W1, hW1⟩ : ∃ W, W = wc := ⟨_, rfl⟩
            rw [← hW1] at HF x0 x3 p0 p1 hpb hxb ⊢
            clear hW1
            go_cut [102] from 63 to 209 (fun s102 wx => s102 = .bool false ∧ Hid (Five w wx ss tt rr qq pb vs vt vr vq n m A A B B ⟨pa, pq⟩) ∧ wx.cell? ⟨xb, 0, none⟩ = some (.int .i64 xw))
            case first =>
              by_cases hpo : pa ≤ pq
              · have hof : Pr.v ⟨min pa pq, max pa pq⟩ = .agg #[.int .i64 pa, .int .i64 pq] := by
                  unfold Pr.v; rw [Int.min_eq_left hpo, Int.max_eq_right hpo]
                refine RV.region_by (fun j v w => match j with | 0 => v = .agg #[.int .i64 pa, .int .i64 pq] | 1 => v = .pointer (some ⟨pb, 0, none⟩) | 2 => v = .int .i64 pa | 3 => v = .pointer (some ⟨pb, 1, none⟩) | 4 => v = .int .i64 pq | 5 => v = .agg #[.int .i64 pa, .int .i64 pq] | 6 => v = .bool false | 7 => v = .bool false | 8 => v = undef | 9 => v = undef | 10 => v = undef | 11 => v = .bool false | _ => True) (fun γ L w => Below W1.heap.size W1 w) (by kernel_rfl) (by kernel_rfl) (by kernel_rfl) (by kernel_rfl) ?_ ?_ ?_
                · exact (Below.refl _ W1).drew
                · generalize hD : dstOf _ = D
                  generalize hWA : waitsFor _ = WA
                  generalize hZ : Act.mk _ _ = Z
                  obtain ⟨R, hR⟩ : ∃ R : Nat → Value → World → Prop, R = (fun j v w => match j with | 0 => v = .agg #[.int .i64 pa, .int .i64 pq] | 1 => v = .pointer (some ⟨pb, 0, none⟩) | 2 => v = .int .i64 pa | 3 => v = .pointer (some ⟨pb, 1, none⟩) | 4 => v = .int .i64 pq | 5 => v = .agg #[.int .i64 pa, .int .i64 pq] | 6 => v = .bool false | 7 => v = .bool false | 8 => v = undef | 9 => v = undef | 10 => v = undef | 11 => v = .bool false | _ => True) := ⟨_, rfl⟩
                  rw [← hR]
                  have d0 : D 0 = some 91 := by rw [← hD]; rfl
                  have d1 : D 1 = some 92 := by rw [← hD]; rfl
                  have d2 : D 2 = some 93 := by rw [← hD]; rfl
                  have d3 : D 3 = some 94 := by rw [← hD]; rfl
                  have d4 : D 4 = some 95 := by rw [← hD]; rfl
                  have d5 : D 5 = some 96 := by rw [← hD]; rfl
                  have d6 : D 6 = some 97 := by rw [← hD]; rfl
                  have d7 : D 7 = some 98 := by rw [← hD]; rfl
                  have d8 : D 8 = some 99 := by rw [← hD]; rfl
                  have d9 : D 9 = some 100 := by rw [← hD]; rfl
                  have d10 : D 10 = some 101 := by rw [← hD]; rfl
                  have d11 : D 11 = some 102 := by rw [← hD]; rfl
                  have r0 : ∀ v w, R 0 v w = (v = .agg #[.int .i64 pa, .int .i64 pq]) := fun v w => by rw [hR]; rfl
                  have r1 : ∀ v w, R 1 v w = (v = .pointer (some ⟨pb, 0, none⟩)) := fun v w => by rw [hR]; rfl
                  have r2 : ∀ v w, R 2 v w = (v = .int .i64 pa) := fun v w => by rw [hR]; rfl
                  have r3 : ∀ v w, R 3 v w = (v = .pointer (some ⟨pb, 1, none⟩)) := fun v w => by rw [hR]; rfl
                  have r4 : ∀ v w, R 4 v w = (v = .int .i64 pq) := fun v w => by rw [hR]; rfl
                  have r5 : ∀ v w, R 5 v w = (v = .agg #[.int .i64 pa, .int .i64 pq]) := fun v w => by rw [hR]; rfl
                  have r6 : ∀ v w, R 6 v w = (v = .bool false) := fun v w => by rw [hR]; rfl
                  have r7 : ∀ v w, R 7 v w = (v = .bool false) := fun v w => by rw [hR]; rfl
                  have r8 : ∀ v w, R 8 v w = (v = undef) := fun v w => by rw [hR]; rfl
                  have r9 : ∀ v w, R 9 v w = (v = undef) := fun v w => by rw [hR]; rfl
                  have r10 : ∀ v w, R 10 v w = (v = undef) := fun v w => by rw [hR]; rfl
                  have r11 : ∀ v w, R 11 v w = (v = .bool false) := fun v w => by rw [hR]; rfl
                  have E15 : ∀ (γ : Nat → Value) (L : Nat → Bool) (a : Act) (w : World), RV.Held D WA R (fun γ L w => Below W1.heap.size W1 w) Z γ L a w → a.tmps[15]? = some (.pointer (some ⟨xb, 0, none⟩)) := fun γ L a w hH => (hH.rest 15 (by rw [← hD]; exact RV.dst_free (by kernel_rfl))).trans (by rw [← hZ]; rfl)
                  have E16 : ∀ (γ : Nat → Value) (L : Nat → Bool) (a : Act) (w : World), RV.Held D WA R (fun γ L w => Below W1.heap.size W1 w) Z γ L a w → a.tmps[16]? = some (.pointer (some ⟨pb, 0, none⟩)) := fun γ L a w hH => (hH.rest 16 (by rw [← hD]; exact RV.dst_free (by kernel_rfl))).trans (by rw [← hZ]; rfl)
                  have K : ∀ j v w w', R j v w → R j v w' := by rw [hR]; intro j v w w' h; exact h
                  clear hD hWA hZ hR
                  refine RV.AllDo.cons 0 (RV.does_pure (fun γ v L w hl h => h) (fun γ L a w hH hl hA => by have e0 := E16 γ L a w hH; have z0 := (hH.glob.cell (p := ⟨pb, 0, none⟩) hpb).trans p0; have z1 := (hH.glob.cell (p := ⟨pb, 1, none⟩) hpb).trans p1; exact ⟨.agg #[.int .i64 pa, .int .i64 pq], by simp [execOp, go_sem, e0, z0, z1], (r0 _ _).mpr rfl⟩)) ?_
                  refine RV.AllDo.cons 1 (RV.does_pure (fun γ v L w hl h => h) (fun γ L a w hH hl hA => by have e0 := E16 γ L a w hH; exact ⟨.pointer (some ⟨pb, 0, none⟩), by simp [execOp, go_sem, e0], (r1 _ _).mpr rfl⟩)) ?_
                  refine RV.AllDo.cons 2 (RV.does_pure (fun γ v L w hl h => h) (fun γ L a w hH hl hA => by have l0 : L 1 = true := hA ⟨1, .data⟩ (by simp) rfl; have e0 := hH.slot 1 92 d1 l0; have g0 := hH.holds 1 l0; rw [r1] at g0; rw [g0] at e0; have z0 := (hH.glob.cell (p := ⟨pb, 0, none⟩) hpb).trans p0; exact ⟨.int .i64 pa, by simp [execOp, go_sem, e0, z0], (r2 _ _).mpr rfl⟩)) ?_
                  refine RV.AllDo.cons 3 (RV.does_pure (fun γ v L w hl h => h) (fun γ L a w hH hl hA => by have e0 := E16 γ L a w hH; exact ⟨.pointer (some ⟨pb, 1, none⟩), by simp [execOp, go_sem, e0], (r3 _ _).mpr rfl⟩)) ?_
                  refine RV.AllDo.cons 4 (RV.does_pure (fun γ v L w hl h => h) (fun γ L a w hH hl hA => by have l0 : L 3 = true := hA ⟨3, .data⟩ (by simp) rfl; have e0 := hH.slot 3 94 d3 l0; have g0 := hH.holds 3 l0; rw [r3] at g0; rw [g0] at e0; have z1 := (hH.glob.cell (p := ⟨pb, 1, none⟩) hpb).trans p1; exact ⟨.int .i64 pq, by simp [execOp, go_sem, e0, z1], (r4 _ _).mpr rfl⟩)) ?_
                  refine RV.AllDo.cons 5 (RV.does_call (fun γ L a w hH hl hA => by have l0 : L 2 = true := hA ⟨2, .data⟩ (by simp) rfl; have e0 := hH.slot 2 93 d2 l0; have g0 := hH.holds 2 l0; rw [r2] at g0; rw [g0] at e0; have l1 : L 4 = true := hA ⟨4, .data⟩ (by simp) rfl; have e1 := hH.slot 4 95 d4 l1; have g1 := hH.holds 4 l1; rw [r4] at g1; rw [g1] at e1; exact ⟨9, #[.int .i64 pa, .int .i64 pq], by simp [go_sem, e0, e1], (rof_any pa pq w).mono (by rintro e w2 ⟨rfl, hb⟩; exact ⟨_, rfl, (r5 _ _).mpr hof, fun j v _ h => K j v _ _ h, hH.glob.trans (hb.mono hH.glob.size)⟩)⟩)) ?_
                  refine RV.AllDo.cons 6 (RV.does_pure (fun γ v L w hl h => h) (fun γ L a w hH hl hA => by have l0 : L 0 = true := hA ⟨0, .data⟩ (by simp) rfl; have e0 := hH.slot 0 91 d0 l0; have g0 := hH.holds 0 l0; rw [r0] at g0; rw [g0] at e0; have l1 : L 5 = true := hA ⟨5, .data⟩ (by simp) rfl; have e1 := hH.slot 5 96 d5 l1; have g1 := hH.holds 5 l1; rw [r5] at g1; rw [g1] at e1; exact ⟨.bool false, by simp [execOp, go_sem, e0, e1], (r6 _ _).mpr rfl⟩)) ?_
                  refine RV.AllDo.cons 7 (RV.does_pure (fun γ v L w hl h => h) (fun γ L a w hH hl hA => by have l0 : L 6 = true := hA ⟨6, .data⟩ (by simp) rfl; have e0 := hH.slot 6 97 d6 l0; have g0 := hH.holds 6 l0; rw [r6] at g0; rw [g0] at e0; exact ⟨.bool false, by simp [execOp, go_sem, e0], (r7 _ _).mpr rfl⟩)) ?_
                  refine RV.AllDo.cons 8 (RV.does_skip rfl d7 (fun v w h => by rw [r7] at h; exact h) (by simp) (fun w => (r8 _ _).mpr rfl) (fun γ v L w hl h => h)) ?_
                  refine RV.AllDo.cons 9 (RV.does_skip rfl d7 (fun v w h => by rw [r7] at h; exact h) (by simp) (fun w => (r9 _ _).mpr rfl) (fun γ v L w hl h => h)) ?_
                  refine RV.AllDo.cons 10 (RV.does_skip rfl d7 (fun v w h => by rw [r7] at h; exact h) (by simp) (fun w => (r10 _ _).mpr rfl) (fun γ v L w hl h => h)) ?_
                  refine RV.AllDo.cons 11 (RV.does_pure (fun γ v L w hl h => h) (fun γ L a w hH hl hA => by have l0 : L 7 = true := hA ⟨7, .data⟩ (by simp) rfl; have e0 := hH.slot 7 98 d7 l0; have g0 := hH.holds 7 l0; rw [r7] at g0; rw [g0] at e0; have l1 : L 10 = true := hA ⟨10, .data⟩ (by simp) rfl; have e1 := hH.slot 10 101 d10 l1; have g1 := hH.holds 10 l1; rw [r10] at g1; rw [g1] at e1; exact ⟨.bool false, by simp [execOp, go_sem, e0, e1], (r11 _ _).mpr rfl⟩)) ?_
                  exact RV.AllDo.nil
                · intro γ a5 w5 L9 hL hLo hH
                  have ha := RV.held_act hH hL (by kernel_rfl) (by kernel_rfl)
                  have hB5 := hH.glob
                  have q11 : γ 11 = .bool false := hH.holds 11 (hL 11 (by decide))
                  rw [ha]
                  clear ha hH hL hLo
                  simp only [RV.putAll, Act.put, List.setIfInBounds_toArray, List.set_cons_zero, List.set_cons_succ, Nat.zero_add, Nat.reduceAdd]
                  rw [q11]
                  go_wp2_with (fail)
                  go_meet
                  case rel => exact ⟨rfl, HF.out.step hB5, (hB5.cell (p := ⟨xb, 0, none⟩) hxb).trans x0⟩
              · have hof : Pr.v ⟨min pa pq, max pa pq⟩ = .agg #[.int .i64 pq, .int .i64 pa] := by
                  unfold Pr.v; rw [Int.min_eq_right (by omega), Int.max_eq_left (by omega)]
                have hxf : xf = true := by
                  cases xf with
                  | true => rfl
                  | false => exact absurd (hord rfl) hpo
                have hne : (pa == pq) = false := beq_eq_false_iff_ne.2 (by omega)
                subst hxf
                refine RV.region_by (fun j v w => match j with | 0 => v = .agg #[.int .i64 pa, .int .i64 pq] | 1 => v = .pointer (some ⟨pb, 0, none⟩) | 2 => v = .int .i64 pa | 3 => v = .pointer (some ⟨pb, 1, none⟩) | 4 => v = .int .i64 pq | 5 => v = .agg #[.int .i64 pq, .int .i64 pa] | 6 => v = .bool true | 7 => v = .bool true | 8 => v = .pointer (some ⟨xb, 3, none⟩) | 9 => v = .bool true | 10 => v = .bool false | 11 => v = .bool false | _ => True) (fun γ L w => Below W1.heap.size W1 w) (by kernel_rfl) (by kernel_rfl) (by kernel_rfl) (by kernel_rfl) ?_ ?_ ?_
                · exact (Below.refl _ W1).drew
                · generalize hD : dstOf _ = D
                  generalize hWA : waitsFor _ = WA
                  generalize hZ : Act.mk _ _ = Z
                  obtain ⟨R, hR⟩ : ∃ R : Nat → Value → World → Prop, R = (fun j v w => match j with | 0 => v = .agg #[.int .i64 pa, .int .i64 pq] | 1 => v = .pointer (some ⟨pb, 0, none⟩) | 2 => v = .int .i64 pa | 3 => v = .pointer (some ⟨pb, 1, none⟩) | 4 => v = .int .i64 pq | 5 => v = .agg #[.int .i64 pq, .int .i64 pa] | 6 => v = .bool true | 7 => v = .bool true | 8 => v = .pointer (some ⟨xb, 3, none⟩) | 9 => v = .bool true | 10 => v = .bool false | 11 => v = .bool false | _ => True) := ⟨_, rfl⟩
                  rw [← hR]
                  have d0 : D 0 = some 91 := by rw [← hD]; rfl
                  have d1 : D 1 = some 92 := by rw [← hD]; rfl
                  have d2 : D 2 = some 93 := by rw [← hD]; rfl
                  have d3 : D 3 = some 94 := by rw [← hD]; rfl
                  have d4 : D 4 = some 95 := by rw [← hD]; rfl
                  have d5 : D 5 = some 96 := by rw [← hD]; rfl
                  have d6 : D 6 = some 97 := by rw [← hD]; rfl
                  have d7 : D 7 = some 98 := by rw [← hD]; rfl
                  have d8 : D 8 = some 99 := by rw [← hD]; rfl
                  have d9 : D 9 = some 100 := by rw [← hD]; rfl
                  have d10 : D 10 = some 101 := by rw [← hD]; rfl
                  have d11 : D 11 = some 102 := by rw [← hD]; rfl
                  have r0 : ∀ v w, R 0 v w = (v = .agg #[.int .i64 pa, .int .i64 pq]) := fun v w => by rw [hR]; rfl
                  have r1 : ∀ v w, R 1 v w = (v = .pointer (some ⟨pb, 0, none⟩)) := fun v w => by rw [hR]; rfl
                  have r2 : ∀ v w, R 2 v w = (v = .int .i64 pa) := fun v w => by rw [hR]; rfl
                  have r3 : ∀ v w, R 3 v w = (v = .pointer (some ⟨pb, 1, none⟩)) := fun v w => by rw [hR]; rfl
                  have r4 : ∀ v w, R 4 v w = (v = .int .i64 pq) := fun v w => by rw [hR]; rfl
                  have r5 : ∀ v w, R 5 v w = (v = .agg #[.int .i64 pq, .int .i64 pa]) := fun v w => by rw [hR]; rfl
                  have r6 : ∀ v w, R 6 v w = (v = .bool true) := fun v w => by rw [hR]; rfl
                  have r7 : ∀ v w, R 7 v w = (v = .bool true) := fun v w => by rw [hR]; rfl
                  have r8 : ∀ v w, R 8 v w = (v = .pointer (some ⟨xb, 3, none⟩)) := fun v w => by rw [hR]; rfl
                  have r9 : ∀ v w, R 9 v w = (v = .bool true) := fun v w => by rw [hR]; rfl
                  have r10 : ∀ v w, R 10 v w = (v = .bool false) := fun v w => by rw [hR]; rfl
                  have r11 : ∀ v w, R 11 v w = (v = .bool false) := fun v w => by rw [hR]; rfl
                  have E15 : ∀ (γ : Nat → Value) (L : Nat → Bool) (a : Act) (w : World), RV.Held D WA R (fun γ L w => Below W1.heap.size W1 w) Z γ L a w → a.tmps[15]? = some (.pointer (some ⟨xb, 0, none⟩)) := fun γ L a w hH => (hH.rest 15 (by rw [← hD]; exact RV.dst_free (by kernel_rfl))).trans (by rw [← hZ]; rfl)
                  have E16 : ∀ (γ : Nat → Value) (L : Nat → Bool) (a : Act) (w : World), RV.Held D WA R (fun γ L w => Below W1.heap.size W1 w) Z γ L a w → a.tmps[16]? = some (.pointer (some ⟨pb, 0, none⟩)) := fun γ L a w hH => (hH.rest 16 (by rw [← hD]; exact RV.dst_free (by kernel_rfl))).trans (by rw [← hZ]; rfl)
                  have K : ∀ j v w w', R j v w → R j v w' := by rw [hR]; intro j v w w' h; exact h
                  clear hD hWA hZ hR
                  refine RV.AllDo.cons 0 (RV.does_pure (fun γ v L w hl h => h) (fun γ L a w hH hl hA => by have e0 := E16 γ L a w hH; have z0 := (hH.glob.cell (p := ⟨pb, 0, none⟩) hpb).trans p0; have z1 := (hH.glob.cell (p := ⟨pb, 1, none⟩) hpb).trans p1; exact ⟨.agg #[.int .i64 pa, .int .i64 pq], by simp [execOp, go_sem, e0, z0, z1], (r0 _ _).mpr rfl⟩)) ?_
                  refine RV.AllDo.cons 1 (RV.does_pure (fun γ v L w hl h => h) (fun γ L a w hH hl hA => by have e0 := E16 γ L a w hH; exact ⟨.pointer (some ⟨pb, 0, none⟩), by simp [execOp, go_sem, e0], (r1 _ _).mpr rfl⟩)) ?_
                  refine RV.AllDo.cons 2 (RV.does_pure (fun γ v L w hl h => h) (fun γ L a w hH hl hA => by have l0 : L 1 = true := hA ⟨1, .data⟩ (by simp) rfl; have e0 := hH.slot 1 92 d1 l0; have g0 := hH.holds 1 l0; rw [r1] at g0; rw [g0] at e0; have z0 := (hH.glob.cell (p := ⟨pb, 0, none⟩) hpb).trans p0; exact ⟨.int .i64 pa, by simp [execOp, go_sem, e0, z0], (r2 _ _).mpr rfl⟩)) ?_
                  refine RV.AllDo.cons 3 (RV.does_pure (fun γ v L w hl h => h) (fun γ L a w hH hl hA => by have e0 := E16 γ L a w hH; exact ⟨.pointer (some ⟨pb, 1, none⟩), by simp [execOp, go_sem, e0], (r3 _ _).mpr rfl⟩)) ?_
                  refine RV.AllDo.cons 4 (RV.does_pure (fun γ v L w hl h => h) (fun γ L a w hH hl hA => by have l0 : L 3 = true := hA ⟨3, .data⟩ (by simp) rfl; have e0 := hH.slot 3 94 d3 l0; have g0 := hH.holds 3 l0; rw [r3] at g0; rw [g0] at e0; have z1 := (hH.glob.cell (p := ⟨pb, 1, none⟩) hpb).trans p1; exact ⟨.int .i64 pq, by simp [execOp, go_sem, e0, z1], (r4 _ _).mpr rfl⟩)) ?_
                  refine RV.AllDo.cons 5 (RV.does_call (fun γ L a w hH hl hA => by have l0 : L 2 = true := hA ⟨2, .data⟩ (by simp) rfl; have e0 := hH.slot 2 93 d2 l0; have g0 := hH.holds 2 l0; rw [r2] at g0; rw [g0] at e0; have l1 : L 4 = true := hA ⟨4, .data⟩ (by simp) rfl; have e1 := hH.slot 4 95 d4 l1; have g1 := hH.holds 4 l1; rw [r4] at g1; rw [g1] at e1; exact ⟨9, #[.int .i64 pa, .int .i64 pq], by simp [go_sem, e0, e1], (rof_any pa pq w).mono (by rintro e w2 ⟨rfl, hb⟩; exact ⟨_, rfl, (r5 _ _).mpr hof, fun j v _ h => K j v _ _ h, hH.glob.trans (hb.mono hH.glob.size)⟩)⟩)) ?_
                  refine RV.AllDo.cons 6 (RV.does_pure (fun γ v L w hl h => h) (fun γ L a w hH hl hA => by have l0 : L 0 = true := hA ⟨0, .data⟩ (by simp) rfl; have e0 := hH.slot 0 91 d0 l0; have g0 := hH.holds 0 l0; rw [r0] at g0; rw [g0] at e0; have l1 : L 5 = true := hA ⟨5, .data⟩ (by simp) rfl; have e1 := hH.slot 5 96 d5 l1; have g1 := hH.holds 5 l1; rw [r5] at g1; rw [g1] at e1; exact ⟨.bool true, by simp [execOp, go_sem, e0, e1, hne], (r6 _ _).mpr rfl⟩)) ?_
                  refine RV.AllDo.cons 7 (RV.does_pure (fun γ v L w hl h => h) (fun γ L a w hH hl hA => by have l0 : L 6 = true := hA ⟨6, .data⟩ (by simp) rfl; have e0 := hH.slot 6 97 d6 l0; have g0 := hH.holds 6 l0; rw [r6] at g0; rw [g0] at e0; exact ⟨.bool true, by simp [execOp, go_sem, e0], (r7 _ _).mpr rfl⟩)) ?_
                  refine RV.AllDo.cons 8 (RV.does_guarded rfl d7 (fun v w h => by rw [r7] at h; exact h) (by simp) (RV.does_pure (fun γ v L w hl h => h) (fun γ L a w hH hl hA => by have e0 := E15 γ L a w hH; exact ⟨.pointer (some ⟨xb, 3, none⟩), by simp [execOp, go_sem, e0], (r8 _ _).mpr rfl⟩))) ?_
                  refine RV.AllDo.cons 9 (RV.does_guarded rfl d7 (fun v w h => by rw [r7] at h; exact h) (by simp) (RV.does_pure (fun γ v L w hl h => h) (fun γ L a w hH hl hA => by have l0 : L 8 = true := hA ⟨8, .data⟩ (by simp) rfl; have e0 := hH.slot 8 99 d8 l0; have g0 := hH.holds 8 l0; rw [r8] at g0; rw [g0] at e0; have z3 := (hH.glob.cell (p := ⟨xb, 3, none⟩) hxb).trans x3; exact ⟨.bool true, by simp [execOp, go_sem, e0, z3], (r9 _ _).mpr rfl⟩))) ?_
                  refine RV.AllDo.cons 10 (RV.does_guarded rfl d7 (fun v w h => by rw [r7] at h; exact h) (by simp) (RV.does_pure (fun γ v L w hl h => h) (fun γ L a w hH hl hA => by have l0 : L 9 = true := hA ⟨9, .data⟩ (by simp) rfl; have e0 := hH.slot 9 100 d9 l0; have g0 := hH.holds 9 l0; rw [r9] at g0; rw [g0] at e0; exact ⟨.bool false, by simp [execOp, go_sem, e0], (r10 _ _).mpr rfl⟩))) ?_
                  refine RV.AllDo.cons 11 (RV.does_pure (fun γ v L w hl h => h) (fun γ L a w hH hl hA => by have l0 : L 7 = true := hA ⟨7, .data⟩ (by simp) rfl; have e0 := hH.slot 7 98 d7 l0; have g0 := hH.holds 7 l0; rw [r7] at g0; rw [g0] at e0; have l1 : L 10 = true := hA ⟨10, .data⟩ (by simp) rfl; have e1 := hH.slot 10 101 d10 l1; have g1 := hH.holds 10 l1; rw [r10] at g1; rw [g1] at e1; exact ⟨.bool false, by simp [execOp, go_sem, e0, e1], (r11 _ _).mpr rfl⟩)) ?_
                  exact RV.AllDo.nil
                · intro γ a5 w5 L9 hL hLo hH
                  have ha := RV.held_act hH hL (by kernel_rfl) (by kernel_rfl)
                  have hB5 := hH.glob
                  have q11 : γ 11 = .bool false := hH.holds 11 (hL 11 (by decide))
                  rw [ha]
                  clear ha hH hL hLo
                  simp only [RV.putAll, Act.put, List.setIfInBounds_toArray, List.set_cons_zero, List.set_cons_succ, Nat.zero_add, Nat.reduceAdd]
                  rw [q11]
                  go_wp2_with (fail)
                  go_meet
                  case rel => exact ⟨rfl, HF.out.step hB5, (hB5.cell (p := ⟨xb, 0, none⟩) hxb).trans x0⟩
            case rest =>
              clear HF x0 x3 p0 p1
              obtain ⟨rfl, HF, x0⟩ := hcut
              obtain ⟨w0, hw0⟩ : ∃ x, x = w := ⟨_, rfl⟩
              rw [← hw0] at HF
              go_wp2_with (fail)
              refine (pick_any xw 5 _ b0 b0' (by omega) (by omega)).mono ?_
              rintro e w2 ⟨rfl, rfl⟩
              have hz0 := pickZ_lo xw (n := 5) (by omega)
              have hz1 := pickZ_hi xw (n := 5) (by omega)
              generalize pickZ xw 5 = z at *
              go_upto_block 2 with fail
              go_cut [17] from 63 to 209 (fun s17 wx => s17 = .bool true ∧ ∃ vs vr A2, Hid (Five w0 wx ss tt rr qq pb vs vt vr vq n m A2 A2 B B ⟨pa, pq⟩))
              case first =>
                by_cases hz3 : z = 3
                · subst hz3
                  obtain ⟨A2, hA2⟩ : ∃ X : List Pr, A.filter (fun q => decide (q ≠ (⟨pa, pq⟩ : Pr))) = X := ⟨_, rfl⟩
                  obtain ⟨dd, hd⟩ : ∃ d : Bool, decide ((⟨pa, pq⟩ : Pr) ∈ A) = d := ⟨_, rfl⟩
                  have HA2 : Hid _ := hA2
                  have HDD : Hid _ := hd
                  clear hd hA2
                  go_wp2_with (fail)
                  have hA2 := HA2.out
                  have hd := HDD.out
                  refine RV.region_by (fun j v w => match j with | 0 => v = .pointer (some ⟨ss, 0, none⟩) | 1 => v = .agg #[.int .i64 pa, .int .i64 pq] | 2 => v = .bool dd | 3 => v = .pointer (some ⟨rr, 0, none⟩) | 4 => v = .agg #[.int .i64 pa, .int .i64 pq] | 5 => v = .bool dd | 6 => v = .bool true | 7 => v = .bool true | _ => True) (fun γ L W => ∃ vs vr, Five w0 W ss tt rr qq pb vs vt vr vq n m (bif L 2 then A2 else A) (bif L 5 then A2 else A) B B ⟨pa, pq⟩) (by kernel_rfl) (by kernel_rfl) (by kernel_rfl) (by kernel_rfl) ?_ ?_ ?_
                  · exact ⟨vs, vr, HF.out.step (Below.refl _ _).drew⟩
                  · generalize hD : dstOf _ = D
                    generalize hWA : waitsFor _ = WA
                    generalize hZ : Act.mk _ _ = Z
                    obtain ⟨R, hR⟩ : ∃ R : Nat → Value → World → Prop, R = (fun j v w => match j with | 0 => v = .pointer (some ⟨ss, 0, none⟩) | 1 => v = .agg #[.int .i64 pa, .int .i64 pq] | 2 => v = .bool dd | 3 => v = .pointer (some ⟨rr, 0, none⟩) | 4 => v = .agg #[.int .i64 pa, .int .i64 pq] | 5 => v = .bool dd | 6 => v = .bool true | 7 => v = .bool true | _ => True) := ⟨_, rfl⟩
                    rw [← hR]
                    have d0 : D 0 = some 128 := by rw [← hD]; rfl
                    have d1 : D 1 = some 129 := by rw [← hD]; rfl
                    have d2 : D 2 = some 130 := by rw [← hD]; rfl
                    have d3 : D 3 = some 131 := by rw [← hD]; rfl
                    have d4 : D 4 = some 132 := by rw [← hD]; rfl
                    have d5 : D 5 = some 133 := by rw [← hD]; rfl
                    have d6 : D 6 = some 134 := by rw [← hD]; rfl
                    have d7 : D 7 = some 17 := by rw [← hD]; rfl
                    have r0 : ∀ v w, R 0 v w = (v = .pointer (some ⟨ss, 0, none⟩)) := fun v w => by rw [hR]; rfl
                    have r1 : ∀ v w, R 1 v w = (v = .agg #[.int .i64 pa, .int .i64 pq]) := fun v w => by rw [hR]; rfl
                    have r2 : ∀ v w, R 2 v w = (v = .bool dd) := fun v w => by rw [hR]; rfl
                    have r3 : ∀ v w, R 3 v w = (v = .pointer (some ⟨rr, 0, none⟩)) := fun v w => by rw [hR]; rfl
                    have r4 : ∀ v w, R 4 v w = (v = .agg #[.int .i64 pa, .int .i64 pq]) := fun v w => by rw [hR]; rfl
                    have r5 : ∀ v w, R 5 v w = (v = .bool dd) := fun v w => by rw [hR]; rfl
                    have r6 : ∀ v w, R 6 v w = (v = .bool true) := fun v w => by rw [hR]; rfl
                    have r7 : ∀ v w, R 7 v w = (v = .bool true) := fun v w => by rw [hR]; rfl
                    have E6 : ∀ (γ : Nat → Value) (L : Nat → Bool) (a : Act) (w : World), RV.Held D WA R (fun γ L W => ∃ vs vr, Five w0 W ss tt rr qq pb vs vt vr vq n m (bif L 2 then A2 else A) (bif L 5 then A2 else A) B B ⟨pa, pq⟩) Z γ L a w → a.tmps[6]? = some (.pointer (some ⟨ss, 0, none⟩)) := fun γ L a w hH => (hH.rest 6 (by rw [← hD]; exact RV.dst_free (by kernel_rfl))).trans (by rw [← hZ]; rfl)
                    have E8 : ∀ (γ : Nat → Value) (L : Nat → Bool) (a : Act) (w : World), RV.Held D WA R (fun γ L W => ∃ vs vr, Five w0 W ss tt rr qq pb vs vt vr vq n m (bif L 2 then A2 else A) (bif L 5 then A2 else A) B B ⟨pa, pq⟩) Z γ L a w → a.tmps[8]? = some (.pointer (some ⟨rr, 0, none⟩)) := fun γ L a w hH => (hH.rest 8 (by rw [← hD]; exact RV.dst_free (by kernel_rfl))).trans (by rw [← hZ]; rfl)
                    have E16 : ∀ (γ : Nat → Value) (L : Nat → Bool) (a : Act) (w : World), RV.Held D WA R (fun γ L W => ∃ vs vr, Five w0 W ss tt rr qq pb vs vt vr vq n m (bif L 2 then A2 else A) (bif L 5 then A2 else A) B B ⟨pa, pq⟩) Z γ L a w → a.tmps[16]? = some (.pointer (some ⟨pb, 0, none⟩)) := fun γ L a w hH => (hH.rest 16 (by rw [← hD]; exact RV.dst_free (by kernel_rfl))).trans (by rw [← hZ]; rfl)
                    have K : ∀ j v w w', R j v w → R j v w' := by rw [hR]; intro j v w w' h; exact h
                    clear hD hWA hZ hR
                    refine RV.AllDo.cons 0 (RV.does_pure (fun γ v L w hl h => by obtain ⟨vs, vr, h⟩ := h; exact ⟨vs, vr, by rw [RV.more_ne (L := L) (i := 0) (j := 2) (by decide), RV.more_ne (L := L) (i := 0) (j := 5) (by decide)]; exact h⟩) (fun γ L a w hH hl hA => by have e0 := E6 γ L a w hH; exact ⟨.pointer (some ⟨ss, 0, none⟩), by simp [execOp, go_sem, e0], (r0 _ _).mpr rfl⟩)) ?_
                    refine RV.AllDo.cons 1 (RV.does_pure (fun γ v L w hl h => by obtain ⟨vs, vr, h⟩ := h; exact ⟨vs, vr, by rw [RV.more_ne (L := L) (i := 1) (j := 2) (by decide), RV.more_ne (L := L) (i := 1) (j := 5) (by decide)]; exact h⟩) (fun γ L a w hH hl hA => by have e0 := E16 γ L a w hH; obtain ⟨_, _, hF⟩ := hH.glob; have z0 := hF.d0; have z1 := hF.d1; exact ⟨.agg #[.int .i64 pa, .int .i64 pq], by simp [execOp, go_sem, e0, z0, z1], (r1 _ _).mpr rfl⟩)) ?_
                    refine RV.AllDo.cons 2 (RV.does_call (fun γ L a w hH hl hA => by have l0 : L 0 = true := hA ⟨0, .data⟩ (by simp) rfl; have e0 := hH.slot 0 128 d0 l0; have g0 := hH.holds 0 l0; rw [r0] at g0; rw [g0] at e0; have l1 : L 1 = true := hA ⟨1, .data⟩ (by simp) rfl; have e1 := hH.slot 1 129 d1 l1; have g1 := hH.holds 1 l1; rw [r1] at g1; rw [g1] at e1; obtain ⟨vs, vr, h⟩ := hH.glob; rw [hl] at h; replace h := h; refine ⟨10, #[.pointer (some ⟨ss, 0, none⟩), .agg #[.int .i64 pa, .int .i64 pq]], by simp [go_sem, e0, e1], Calls.mono (q_drop_s2 h hd hA2) ?_⟩; rintro e w2 ⟨rfl, vs1, h1⟩; refine ⟨_, rfl, (r2 _ _).mpr rfl, fun j v _ h => K j v _ _ h, ?_⟩; exact ⟨vs1, vr, by rw [RV.more_self, RV.more_ne (L := L) (i := 2) (j := 5) (by decide)]; exact h1⟩)) ?_
                    refine RV.AllDo.cons 3 (RV.does_pure (fun γ v L w hl h => by obtain ⟨vs, vr, h⟩ := h; exact ⟨vs, vr, by rw [RV.more_ne (L := L) (i := 3) (j := 2) (by decide), RV.more_ne (L := L) (i := 3) (j := 5) (by decide)]; exact h⟩) (fun γ L a w hH hl hA => by have e0 := E8 γ L a w hH; exact ⟨.pointer (some ⟨rr, 0, none⟩), by simp [execOp, go_sem, e0], (r3 _ _).mpr rfl⟩)) ?_
                    refine RV.AllDo.cons 4 (RV.does_pure (fun γ v L w hl h => by obtain ⟨vs, vr, h⟩ := h; exact ⟨vs, vr, by rw [RV.more_ne (L := L) (i := 4) (j := 2) (by decide), RV.more_ne (L := L) (i := 4) (j := 5) (by decide)]; exact h⟩) (fun γ L a w hH hl hA => by have e0 := E16 γ L a w hH; obtain ⟨_, _, hF⟩ := hH.glob; have z0 := hF.d0; have z1 := hF.d1; exact ⟨.agg #[.int .i64 pa, .int .i64 pq], by simp [execOp, go_sem, e0, z0, z1], (r4 _ _).mpr rfl⟩)) ?_
                    refine RV.AllDo.cons 5 (RV.does_call (fun γ L a w hH hl hA => by have l0 : L 3 = true := hA ⟨3, .data⟩ (by simp) rfl; have e0 := hH.slot 3 131 d3 l0; have g0 := hH.holds 3 l0; rw [r3] at g0; rw [g0] at e0; have l1 : L 4 = true := hA ⟨4, .data⟩ (by simp) rfl; have e1 := hH.slot 4 132 d4 l1; have g1 := hH.holds 4 l1; rw [r4] at g1; rw [g1] at e1; obtain ⟨vs, vr, h⟩ := hH.glob; rw [hl] at h; replace h := h; refine ⟨11, #[.pointer (some ⟨rr, 0, none⟩), .agg #[.int .i64 pa, .int .i64 pq]], by simp [go_sem, e0, e1], Calls.mono (q_drop_r2 h hd hA2) ?_⟩; rintro e w2 ⟨rfl, vr1, h1⟩; refine ⟨_, rfl, (r5 _ _).mpr rfl, fun j v _ h => K j v _ _ h, ?_⟩; exact ⟨vs, vr1, by rw [RV.more_self, RV.more_ne (L := L) (i := 5) (j := 2) (by decide)]; exact h1⟩)) ?_
                    refine RV.AllDo.cons 6 (RV.does_pure (fun γ v L w hl h => by obtain ⟨vs, vr, h⟩ := h; exact ⟨vs, vr, by rw [RV.more_ne (L := L) (i := 6) (j := 2) (by decide), RV.more_ne (L := L) (i := 6) (j := 5) (by decide)]; exact h⟩) (fun γ L a w hH hl hA => by have l0 : L 2 = true := hA ⟨2, .data⟩ (by simp) rfl; have e0 := hH.slot 2 130 d2 l0; have g0 := hH.holds 2 l0; rw [r2] at g0; rw [g0] at e0; have l1 : L 5 = true := hA ⟨5, .data⟩ (by simp) rfl; have e1 := hH.slot 5 133 d5 l1; have g1 := hH.holds 5 l1; rw [r5] at g1; rw [g1] at e1; exact ⟨.bool true, by simp [execOp, go_sem, e0, e1], (r6 _ _).mpr rfl⟩)) ?_
                    refine RV.AllDo.cons 7 (RV.does_pure (fun γ v L w hl h => by obtain ⟨vs, vr, h⟩ := h; exact ⟨vs, vr, by rw [RV.more_ne (L := L) (i := 7) (j := 2) (by decide), RV.more_ne (L := L) (i := 7) (j := 5) (by decide)]; exact h⟩) (fun γ L a w hH hl hA => by have l0 : L 6 = true := hA ⟨6, .data⟩ (by simp) rfl; have e0 := hH.slot 6 134 d6 l0; have g0 := hH.holds 6 l0; rw [r6] at g0; rw [g0] at e0; exact ⟨.bool true, by simp [execOp, go_sem, e0], (r7 _ _).mpr rfl⟩)) ?_
                    exact RV.AllDo.nil
                  · intro γ a5 w5 L9 hL hLo hH
                    have ha := RV.held_act hH hL (by kernel_rfl) (by kernel_rfl)
                    obtain ⟨vs1, vr1, hF⟩ := hH.glob
                    rw [hL 2 (by decide), hL 5 (by decide)] at hF
                    have q7 : γ 7 = .bool true := hH.holds 7 (hL 7 (by decide))
                    rw [ha]
                    clear ha hH hL hLo
                    simp only [RV.putAll, Act.put, List.setIfInBounds_toArray, List.set_cons_zero, List.set_cons_succ, Nat.zero_add, Nat.reduceAdd]
                    rw [q7]
                    go_wp2_with (fail)
                    go_meet
                    case rel => exact ⟨rfl, vs1, vr1, A2, hF⟩
                · by_cases hz4 : z = 4
                  · subst hz4
                    obtain ⟨A2, hA2⟩ : ∃ X : List Pr, A.filter (fun q => !ofH pa q) = X := ⟨_, rfl⟩
                    obtain ⟨dd, hd⟩ : ∃ d : Int, (A.length : Int) - ((A.filter (fun q => !ofH pa q)).length : Int) = d := ⟨_, rfl⟩
                    have HA2 : Hid _ := hA2
                    have HDD : Hid _ := hd
                    clear hd hA2
                    go_wp2_with (fail)
                    have hA2 := HA2.out
                    have hd := HDD.out
                    refine RV.region_by (fun j v w => match j with | 0 => v = .pointer (some ⟨ss, 0, none⟩) | 1 => v = .pointer (some ⟨pb, 0, none⟩) | 2 => v = .int .i64 pa | 3 => v = .int .i64 dd | 4 => v = .pointer (some ⟨rr, 0, none⟩) | 5 => v = .pointer (some ⟨pb, 0, none⟩) | 6 => v = .int .i64 pa | 7 => v = .int .i64 dd | 8 => v = .bool true | 9 => v = .bool true | _ => True) (fun γ L W => ∃ vs vr, Five w0 W ss tt rr qq pb vs vt vr vq n m (bif L 3 then A2 else A) (bif L 7 then A2 else A) B B ⟨pa, pq⟩) (by kernel_rfl) (by kernel_rfl) (by kernel_rfl) (by kernel_rfl) ?_ ?_ ?_
                    · exact ⟨vs, vr, HF.out.step (Below.refl _ _).drew⟩
                    · generalize hD : dstOf _ = D
                      generalize hWA : waitsFor _ = WA
                      generalize hZ : Act.mk _ _ = Z
                      obtain ⟨R, hR⟩ : ∃ R : Nat → Value → World → Prop, R = (fun j v w => match j with | 0 => v = .pointer (some ⟨ss, 0, none⟩) | 1 => v = .pointer (some ⟨pb, 0, none⟩) | 2 => v = .int .i64 pa | 3 => v = .int .i64 dd | 4 => v = .pointer (some ⟨rr, 0, none⟩) | 5 => v = .pointer (some ⟨pb, 0, none⟩) | 6 => v = .int .i64 pa | 7 => v = .int .i64 dd | 8 => v = .bool true | 9 => v = .bool true | _ => True) := ⟨_, rfl⟩
                      rw [← hR]
                      have d0 : D 0 = some 137 := by rw [← hD]; rfl
                      have d1 : D 1 = some 138 := by rw [← hD]; rfl
                      have d2 : D 2 = some 139 := by rw [← hD]; rfl
                      have d3 : D 3 = some 140 := by rw [← hD]; rfl
                      have d4 : D 4 = some 141 := by rw [← hD]; rfl
                      have d5 : D 5 = some 142 := by rw [← hD]; rfl
                      have d6 : D 6 = some 143 := by rw [← hD]; rfl
                      have d7 : D 7 = some 144 := by rw [← hD]; rfl
                      have d8 : D 8 = some 145 := by rw [← hD]; rfl
                      have d9 : D 9 = some 17 := by rw [← hD]; rfl
                      have r0 : ∀ v w, R 0 v w = (v = .pointer (some ⟨ss, 0, none⟩)) := fun v w => by rw [hR]; rfl
                      have r1 : ∀ v w, R 1 v w = (v = .pointer (some ⟨pb, 0, none⟩)) := fun v w => by rw [hR]; rfl
                      have r2 : ∀ v w, R 2 v w = (v = .int .i64 pa) := fun v w => by rw [hR]; rfl
                      have r3 : ∀ v w, R 3 v w = (v = .int .i64 dd) := fun v w => by rw [hR]; rfl
                      have r4 : ∀ v w, R 4 v w = (v = .pointer (some ⟨rr, 0, none⟩)) := fun v w => by rw [hR]; rfl
                      have r5 : ∀ v w, R 5 v w = (v = .pointer (some ⟨pb, 0, none⟩)) := fun v w => by rw [hR]; rfl
                      have r6 : ∀ v w, R 6 v w = (v = .int .i64 pa) := fun v w => by rw [hR]; rfl
                      have r7 : ∀ v w, R 7 v w = (v = .int .i64 dd) := fun v w => by rw [hR]; rfl
                      have r8 : ∀ v w, R 8 v w = (v = .bool true) := fun v w => by rw [hR]; rfl
                      have r9 : ∀ v w, R 9 v w = (v = .bool true) := fun v w => by rw [hR]; rfl
                      have E6 : ∀ (γ : Nat → Value) (L : Nat → Bool) (a : Act) (w : World), RV.Held D WA R (fun γ L W => ∃ vs vr, Five w0 W ss tt rr qq pb vs vt vr vq n m (bif L 3 then A2 else A) (bif L 7 then A2 else A) B B ⟨pa, pq⟩) Z γ L a w → a.tmps[6]? = some (.pointer (some ⟨ss, 0, none⟩)) := fun γ L a w hH => (hH.rest 6 (by rw [← hD]; exact RV.dst_free (by kernel_rfl))).trans (by rw [← hZ]; rfl)
                      have E8 : ∀ (γ : Nat → Value) (L : Nat → Bool) (a : Act) (w : World), RV.Held D WA R (fun γ L W => ∃ vs vr, Five w0 W ss tt rr qq pb vs vt vr vq n m (bif L 3 then A2 else A) (bif L 7 then A2 else A) B B ⟨pa, pq⟩) Z γ L a w → a.tmps[8]? = some (.pointer (some ⟨rr, 0, none⟩)) := fun γ L a w hH => (hH.rest 8 (by rw [← hD]; exact RV.dst_free (by kernel_rfl))).trans (by rw [← hZ]; rfl)
                      have E16 : ∀ (γ : Nat → Value) (L : Nat → Bool) (a : Act) (w : World), RV.Held D WA R (fun γ L W => ∃ vs vr, Five w0 W ss tt rr qq pb vs vt vr vq n m (bif L 3 then A2 else A) (bif L 7 then A2 else A) B B ⟨pa, pq⟩) Z γ L a w → a.tmps[16]? = some (.pointer (some ⟨pb, 0, none⟩)) := fun γ L a w hH => (hH.rest 16 (by rw [← hD]; exact RV.dst_free (by kernel_rfl))).trans (by rw [← hZ]; rfl)
                      have K : ∀ j v w w', R j v w → R j v w' := by rw [hR]; intro j v w w' h; exact h
                      clear hD hWA hZ hR
                      refine RV.AllDo.cons 0 (RV.does_pure (fun γ v L w hl h => by obtain ⟨vs, vr, h⟩ := h; exact ⟨vs, vr, by rw [RV.more_ne (L := L) (i := 0) (j := 3) (by decide), RV.more_ne (L := L) (i := 0) (j := 7) (by decide)]; exact h⟩) (fun γ L a w hH hl hA => by have e0 := E6 γ L a w hH; exact ⟨.pointer (some ⟨ss, 0, none⟩), by simp [execOp, go_sem, e0], (r0 _ _).mpr rfl⟩)) ?_
                      refine RV.AllDo.cons 1 (RV.does_pure (fun γ v L w hl h => by obtain ⟨vs, vr, h⟩ := h; exact ⟨vs, vr, by rw [RV.more_ne (L := L) (i := 1) (j := 3) (by decide), RV.more_ne (L := L) (i := 1) (j := 7) (by decide)]; exact h⟩) (fun γ L a w hH hl hA => by have e0 := E16 γ L a w hH; exact ⟨.pointer (some ⟨pb, 0, none⟩), by simp [execOp, go_sem, e0], (r1 _ _).mpr rfl⟩)) ?_
                      refine RV.AllDo.cons 2 (RV.does_pure (fun γ v L w hl h => by obtain ⟨vs, vr, h⟩ := h; exact ⟨vs, vr, by rw [RV.more_ne (L := L) (i := 2) (j := 3) (by decide), RV.more_ne (L := L) (i := 2) (j := 7) (by decide)]; exact h⟩) (fun γ L a w hH hl hA => by have l0 : L 1 = true := hA ⟨1, .data⟩ (by simp) rfl; have e0 := hH.slot 1 138 d1 l0; have g0 := hH.holds 1 l0; rw [r1] at g0; rw [g0] at e0; obtain ⟨_, _, hF⟩ := hH.glob; have z0 := hF.d0; exact ⟨.int .i64 pa, by simp [execOp, go_sem, e0, z0], (r2 _ _).mpr rfl⟩)) ?_
                      refine RV.AllDo.cons 3 (RV.does_call (fun γ L a w hH hl hA => by have l0 : L 0 = true := hA ⟨0, .data⟩ (by simp) rfl; have e0 := hH.slot 0 137 d0 l0; have g0 := hH.holds 0 l0; rw [r0] at g0; rw [g0] at e0; have l1 : L 2 = true := hA ⟨2, .data⟩ (by simp) rfl; have e1 := hH.slot 2 139 d2 l1; have g1 := hH.holds 2 l1; rw [r2] at g1; rw [g1] at e1; obtain ⟨vs, vr, h⟩ := hH.glob; rw [hl] at h; replace h := h; refine ⟨12, #[.pointer (some ⟨ss, 0, none⟩), .int .i64 pa], by simp [go_sem, e0, e1], Calls.mono (q_wo_s2 h hd hA2) ?_⟩; rintro e w2 ⟨rfl, vs1, h1⟩; refine ⟨_, rfl, (r3 _ _).mpr rfl, fun j v _ h => K j v _ _ h, ?_⟩; exact ⟨vs1, vr, by rw [RV.more_self, RV.more_ne (L := L) (i := 3) (j := 7) (by decide)]; exact h1⟩)) ?_
                      refine RV.AllDo.cons 4 (RV.does_pure (fun γ v L w hl h => by obtain ⟨vs, vr, h⟩ := h; exact ⟨vs, vr, by rw [RV.more_ne (L := L) (i := 4) (j := 3) (by decide), RV.more_ne (L := L) (i := 4) (j := 7) (by decide)]; exact h⟩) (fun γ L a w hH hl hA => by have e0 := E8 γ L a w hH; exact ⟨.pointer (some ⟨rr, 0, none⟩), by simp [execOp, go_sem, e0], (r4 _ _).mpr rfl⟩)) ?_
                      refine RV.AllDo.cons 5 (RV.does_pure (fun γ v L w hl h => by obtain ⟨vs, vr, h⟩ := h; exact ⟨vs, vr, by rw [RV.more_ne (L := L) (i := 5) (j := 3) (by decide), RV.more_ne (L := L) (i := 5) (j := 7) (by decide)]; exact h⟩) (fun γ L a w hH hl hA => by have e0 := E16 γ L a w hH; exact ⟨.pointer (some ⟨pb, 0, none⟩), by simp [execOp, go_sem, e0], (r5 _ _).mpr rfl⟩)) ?_
                      refine RV.AllDo.cons 6 (RV.does_pure (fun γ v L w hl h => by obtain ⟨vs, vr, h⟩ := h; exact ⟨vs, vr, by rw [RV.more_ne (L := L) (i := 6) (j := 3) (by decide), RV.more_ne (L := L) (i := 6) (j := 7) (by decide)]; exact h⟩) (fun γ L a w hH hl hA => by have l0 : L 5 = true := hA ⟨5, .data⟩ (by simp) rfl; have e0 := hH.slot 5 142 d5 l0; have g0 := hH.holds 5 l0; rw [r5] at g0; rw [g0] at e0; obtain ⟨_, _, hF⟩ := hH.glob; have z0 := hF.d0; exact ⟨.int .i64 pa, by simp [execOp, go_sem, e0, z0], (r6 _ _).mpr rfl⟩)) ?_
                      refine RV.AllDo.cons 7 (RV.does_call (fun γ L a w hH hl hA => by have l0 : L 4 = true := hA ⟨4, .data⟩ (by simp) rfl; have e0 := hH.slot 4 141 d4 l0; have g0 := hH.holds 4 l0; rw [r4] at g0; rw [g0] at e0; have l1 : L 6 = true := hA ⟨6, .data⟩ (by simp) rfl; have e1 := hH.slot 6 143 d6 l1; have g1 := hH.holds 6 l1; rw [r6] at g1; rw [g1] at e1; obtain ⟨vs, vr, h⟩ := hH.glob; rw [hl] at h; replace h := h; refine ⟨13, #[.pointer (some ⟨rr, 0, none⟩), .int .i64 pa], by simp [go_sem, e0, e1], Calls.mono (q_wo_r2 h hd hA2) ?_⟩; rintro e w2 ⟨rfl, vr1, h1⟩; refine ⟨_, rfl, (r7 _ _).mpr rfl, fun j v _ h => K j v _ _ h, ?_⟩; exact ⟨vs, vr1, by rw [RV.more_self, RV.more_ne (L := L) (i := 7) (j := 3) (by decide)]; exact h1⟩)) ?_
                      refine RV.AllDo.cons 8 (RV.does_pure (fun γ v L w hl h => by obtain ⟨vs, vr, h⟩ := h; exact ⟨vs, vr, by rw [RV.more_ne (L := L) (i := 8) (j := 3) (by decide), RV.more_ne (L := L) (i := 8) (j := 7) (by decide)]; exact h⟩) (fun γ L a w hH hl hA => by have l0 : L 3 = true := hA ⟨3, .data⟩ (by simp) rfl; have e0 := hH.slot 3 140 d3 l0; have g0 := hH.holds 3 l0; rw [r3] at g0; rw [g0] at e0; have l1 : L 7 = true := hA ⟨7, .data⟩ (by simp) rfl; have e1 := hH.slot 7 144 d7 l1; have g1 := hH.holds 7 l1; rw [r7] at g1; rw [g1] at e1; exact ⟨.bool true, by simp [execOp, go_sem, e0, e1], (r8 _ _).mpr rfl⟩)) ?_
                      refine RV.AllDo.cons 9 (RV.does_pure (fun γ v L w hl h => by obtain ⟨vs, vr, h⟩ := h; exact ⟨vs, vr, by rw [RV.more_ne (L := L) (i := 9) (j := 3) (by decide), RV.more_ne (L := L) (i := 9) (j := 7) (by decide)]; exact h⟩) (fun γ L a w hH hl hA => by have l0 : L 8 = true := hA ⟨8, .data⟩ (by simp) rfl; have e0 := hH.slot 8 145 d8 l0; have g0 := hH.holds 8 l0; rw [r8] at g0; rw [g0] at e0; exact ⟨.bool true, by simp [execOp, go_sem, e0], (r9 _ _).mpr rfl⟩)) ?_
                      exact RV.AllDo.nil
                    · intro γ a5 w5 L9 hL hLo hH
                      have ha := RV.held_act hH hL (by kernel_rfl) (by kernel_rfl)
                      obtain ⟨vs1, vr1, hF⟩ := hH.glob
                      rw [hL 3 (by decide), hL 7 (by decide)] at hF
                      have q7 : γ 9 = .bool true := hH.holds 9 (hL 9 (by decide))
                      rw [ha]
                      clear ha hH hL hLo
                      simp only [RV.putAll, Act.put, List.setIfInBounds_toArray, List.set_cons_zero, List.set_cons_succ, Nat.zero_add, Nat.reduceAdd]
                      rw [q7]
                      go_wp2_with (fail)
                      go_meet
                      case rel => exact ⟨rfl, vs1, vr1, A2, hF⟩
                  · have e3 : (z == 3) = false := beq_eq_false_iff_ne.2 hz3
                    have e4 : (z == 4) = false := beq_eq_false_iff_ne.2 hz4
                    have p0 := HF.out.d0
                    have p1 := HF.out.d1
                    obtain ⟨A2, hA2⟩ : ∃ X : List Pr, putL n A ⟨pa, pq⟩ = X := ⟨_, rfl⟩
                    obtain ⟨dn, hdn⟩ : ∃ d : Bool, putN n A ⟨pa, pq⟩ = d := ⟨_, rfl⟩
                    obtain ⟨de, hde⟩ : ∃ d : Int, putE n A ⟨pa, pq⟩ = d := ⟨_, rfl⟩
                    have HE : Hid (putN n A ⟨pa, pq⟩ = dn ∧ putE n A ⟨pa, pq⟩ = de ∧ putL n A ⟨pa, pq⟩ = A2) := ⟨hdn, hde, hA2⟩
                    clear hA2 hdn hde
                    go_wp2_with (fail)
                    refine Calls.mono (q_put_s2 HF.out HE.out.1 HE.out.2.1 HE.out.2.2) ?_
                    rintro e V1 ⟨rfl, vs1, h1⟩
                    have p0 := h1.d0
                    have p1 := h1.d1
                    have HF1 : Hid _ := h1
                    clear h1 HF
                    go_wp2_with (fail)
                    refine Calls.mono (q_put_r2 HF1.out HE.out.1 HE.out.2.1 HE.out.2.2) ?_
                    rintro e V2 ⟨rfl, vr1, h1⟩
                    have HF2 : Hid _ := h1
                    clear h1 HF1 HE p0 p1
                    go_wp2_with (fail)
                    go_meet
                    case rel => exact ⟨rfl, vs1, vr1, A2, HF2⟩
              case rest =>
                clear HF x0 hz0 hz1
                obtain ⟨rfl, vs, vr, A2, HF⟩ := hcut
                obtain ⟨W7, hW7⟩ : ∃ W, W = wc := ⟨_, rfl⟩
                rw [← hW7] at HF ⊢
                clear hW7
                have HF : Hid _ := HF.out.swap
                have HFC : Hid _ := HF
                obtain ⟨oq, cq, hvq⟩ := row_form HF.out.quad.r.own
                subst hvq
                obtain ⟨X, hX⟩ : ∃ X, minus B (some A2) = X := ⟨_, rfl⟩
                obtain ⟨hh, hhh⟩ : ∃ d : Bool, decide ((⟨pa, pq⟩ : Pr) ∈ B) = d := ⟨_, rfl⟩
                have HX : Hid _ := hX
                have HH : Hid _ := hhh
                clear hX hhh
                go_wp2_with (fail)
                have HBY := beyond_some tt w0.heap.size vt m B ss w0.heap.size vs n A2 W7 HF.out.quad.s HF.out.quad.t
                rw [HX.out] at HBY
                refine Calls.mono HBY ?_
                clear HBY
                rintro e V1 ⟨lv, rfl, hlv, hb⟩
                have HW : Hid (Row W7 V1 lv X) := ⟨hlv, hb⟩
                have HF : Hid _ := HF.out.step hb
                obtain ⟨ol, cl, hvl⟩ := row_form hlv
                have HVL : Hid _ := hvl
                clear hlv hb hvl
                go_upto_region 31 with fail
                go_cut [199] from 63 to 209 (fun s199 wx => s199 = .bool false ∧ Hid (Five w0 wx tt ss qq rr pb vt vs (.slice oq B.length cq) vr m n B B A2 A2 ⟨pa, pq⟩) ∧ Hid (Row W7 wx lv X))
                case first =>
                  have hX := HX.out
                  have hhh : Value.bool (decide ((⟨pa, pq⟩ : Pr) ∈ B)) = .bool hh := by rw [HH.out]
                  refine RV.region_by (fun j v w => match j with | 0 => v = .bool true | 1 => v = .bool false | 2 => v = .bool false | 3 => v = .pointer (some ⟨tt, 0, none⟩) | 4 => v = .agg #[.int .i64 pa, .int .i64 pq] | 5 => v = .bool hh | 6 => v = .pointer (some ⟨qq, 0, none⟩) | 7 => v = .agg #[.int .i64 pa, .int .i64 pq] | 8 => v = .bool hh | 9 => v = .bool false | 10 => v = .bool false | 11 => v = .bool false | 12 => v = .pointer (some ⟨tt, 0, none⟩) | 13 => v = .int .i64 (B.length : Int) | 14 => v = .pointer (some ⟨qq, 0, none⟩) | 15 => v = .pointer (some ⟨qq, 0, none⟩) | 16 => v = .pointer (some ⟨qq, 0, none⟩) | 17 => v = .slice oq B.length cq | 18 => v = .int .i64 (B.length : Int) | 19 => v = .bool false | 20 => v = .bool false | 21 => v = .bool false | 22 => v = .pointer (some ⟨tt, 0, none⟩) | 23 => (fun v w => Lies w v B) v w | 24 => v = .pointer (some ⟨qq, 0, none⟩) | 25 => v = .pointer (some ⟨qq, 0, none⟩) | 26 => v = .pointer (some ⟨qq, 0, none⟩) | 27 => v = .slice oq B.length cq | 28 => v = .bool true | 29 => v = .bool false | 30 => v = .bool false | 31 => v = .bool false | 32 => v = lv | 33 => v = .pointer (some ⟨qq, 0, none⟩) | 34 => v = .pointer (some ⟨rr, 0, none⟩) | 35 => (fun v w => Lies w v X) v w | 36 => v = .bool true | 37 => v = .bool false | 38 => v = .bool false | 39 => v = .bool false | 40 => v = .pointer (some ⟨ss, 0, none⟩) | 41 => (fun v w => Lies w v A2) v w | 42 => v = .pointer (some ⟨rr, 0, none⟩) | 43 => (fun v w => Lies w v A2) v w | 44 => v = .bool true | 45 => v = .bool false | 46 => v = .bool false | _ => True) (fun γ L W => Five w0 W tt ss qq rr pb vt vs (.slice oq B.length cq) vr m n B B A2 A2 ⟨pa, pq⟩ ∧ Row W7 W lv X) (by kernel_rfl) (by kernel_rfl) (by kernel_rfl) (by kernel_rfl) ?_ ?_ ?_
                  · exact ⟨HF.out.step (Below.refl _ _).drew, HW.out.step (Below.refl _ _).drew⟩
                  · generalize hD : dstOf _ = D
                    generalize hWA : waitsFor _ = WA
                    generalize hZ : Act.mk _ _ = Z
                    obtain ⟨R, hR⟩ : ∃ R : Nat → Value → World → Prop, R = (fun j v w => match j with | 0 => v = .bool true | 1 => v = .bool false | 2 => v = .bool false | 3 => v = .pointer (some ⟨tt, 0, none⟩) | 4 => v = .agg #[.int .i64 pa, .int .i64 pq] | 5 => v = .bool hh | 6 => v = .pointer (some ⟨qq, 0, none⟩) | 7 => v = .agg #[.int .i64 pa, .int .i64 pq] | 8 => v = .bool hh | 9 => v = .bool false | 10 => v = .bool false | 11 => v = .bool false | 12 => v = .pointer (some ⟨tt, 0, none⟩) | 13 => v = .int .i64 (B.length : Int) | 14 => v = .pointer (some ⟨qq, 0, none⟩) | 15 => v = .pointer (some ⟨qq, 0, none⟩) | 16 => v = .pointer (some ⟨qq, 0, none⟩) | 17 => v = .slice oq B.length cq | 18 => v = .int .i64 (B.length : Int) | 19 => v = .bool false | 20 => v = .bool false | 21 => v = .bool false | 22 => v = .pointer (some ⟨tt, 0, none⟩) | 23 => (fun v w => Lies w v B) v w | 24 => v = .pointer (some ⟨qq, 0, none⟩) | 25 => v = .pointer (some ⟨qq, 0, none⟩) | 26 => v = .pointer (some ⟨qq, 0, none⟩) | 27 => v = .slice oq B.length cq | 28 => v = .bool true | 29 => v = .bool false | 30 => v = .bool false | 31 => v = .bool false | 32 => v = lv | 33 => v = .pointer (some ⟨qq, 0, none⟩) | 34 => v = .pointer (some ⟨rr, 0, none⟩) | 35 => (fun v w => Lies w v X) v w | 36 => v = .bool true | 37 => v = .bool false | 38 => v = .bool false | 39 => v = .bool false | 40 => v = .pointer (some ⟨ss, 0, none⟩) | 41 => (fun v w => Lies w v A2) v w | 42 => v = .pointer (some ⟨rr, 0, none⟩) | 43 => (fun v w => Lies w v A2) v w | 44 => v = .bool true | 45 => v = .bool false | 46 => v = .bool false | _ => True) := ⟨_, rfl⟩
                    rw [← hR]
                    have d0 : D 0 = some 153 := by rw [← hD]; rfl
                    have d1 : D 1 = some 154 := by rw [← hD]; rfl
                    have d2 : D 2 = some 155 := by rw [← hD]; rfl
                    have d3 : D 3 = some 156 := by rw [← hD]; rfl
                    have d4 : D 4 = some 157 := by rw [← hD]; rfl
                    have d5 : D 5 = some 158 := by rw [← hD]; rfl
                    have d6 : D 6 = some 159 := by rw [← hD]; rfl
                    have d7 : D 7 = some 160 := by rw [← hD]; rfl
                    have d8 : D 8 = some 161 := by rw [← hD]; rfl
                    have d9 : D 9 = some 162 := by rw [← hD]; rfl
                    have d10 : D 10 = some 163 := by rw [← hD]; rfl
                    have d11 : D 11 = some 164 := by rw [← hD]; rfl
                    have d12 : D 12 = some 165 := by rw [← hD]; rfl
                    have d13 : D 13 = some 166 := by rw [← hD]; rfl
                    have d14 : D 14 = some 167 := by rw [← hD]; rfl
                    have d15 : D 15 = some 168 := by rw [← hD]; rfl
                    have d16 : D 16 = some 169 := by rw [← hD]; rfl
                    have d17 : D 17 = some 170 := by rw [← hD]; rfl
                    have d18 : D 18 = some 171 := by rw [← hD]; rfl
                    have d19 : D 19 = some 172 := by rw [← hD]; rfl
                    have d20 : D 20 = some 173 := by rw [← hD]; rfl
                    have d21 : D 21 = some 174 := by rw [← hD]; rfl
                    have d22 : D 22 = some 175 := by rw [← hD]; rfl
                    have d23 : D 23 = some 176 := by rw [← hD]; rfl
                    have d24 : D 24 = some 177 := by rw [← hD]; rfl
                    have d25 : D 25 = some 178 := by rw [← hD]; rfl
                    have d26 : D 26 = some 179 := by rw [← hD]; rfl
                    have d27 : D 27 = some 180 := by rw [← hD]; rfl
                    have d28 : D 28 = some 181 := by rw [← hD]; rfl
                    have d29 : D 29 = some 182 := by rw [← hD]; rfl
                    have d30 : D 30 = some 183 := by rw [← hD]; rfl
                    have d31 : D 31 = some 184 := by rw [← hD]; rfl
                    have d32 : D 32 = some 185 := by rw [← hD]; rfl
                    have d33 : D 33 = some 186 := by rw [← hD]; rfl
                    have d34 : D 34 = some 187 := by rw [← hD]; rfl
                    have d35 : D 35 = some 188 := by rw [← hD]; rfl
                    have d36 : D 36 = some 189 := by rw [← hD]; rfl
                    have d37 : D 37 = some 190 := by rw [← hD]; rfl
                    have d38 : D 38 = some 191 := by rw [← hD]; rfl
                    have d39 : D 39 = some 192 := by rw [← hD]; rfl
                    have d40 : D 40 = some 193 := by rw [← hD]; rfl
                    have d41 : D 41 = some 194 := by rw [← hD]; rfl
                    have d42 : D 42 = some 195 := by rw [← hD]; rfl
                    have d43 : D 43 = some 196 := by rw [← hD]; rfl
                    have d44 : D 44 = some 197 := by rw [← hD]; rfl
                    have d45 : D 45 = some 198 := by rw [← hD]; rfl
                    have d46 : D 46 = some 199 := by rw [← hD]; rfl
                    have r0 : ∀ v w, R 0 v w = (v = .bool true) := fun v w => by rw [hR]; rfl
                    have r1 : ∀ v w, R 1 v w = (v = .bool false) := fun v w => by rw [hR]; rfl
                    have r2 : ∀ v w, R 2 v w = (v = .bool false) := fun v w => by rw [hR]; rfl
                    have r3 : ∀ v w, R 3 v w = (v = .pointer (some ⟨tt, 0, none⟩)) := fun v w => by rw [hR]; rfl
                    have r4 : ∀ v w, R 4 v w = (v = .agg #[.int .i64 pa, .int .i64 pq]) := fun v w => by rw [hR]; rfl
                    have r5 : ∀ v w, R 5 v w = (v = .bool hh) := fun v w => by rw [hR]; rfl
                    have r6 : ∀ v w, R 6 v w = (v = .pointer (some ⟨qq, 0, none⟩)) := fun v w => by rw [hR]; rfl
                    have r7 : ∀ v w, R 7 v w = (v = .agg #[.int .i64 pa, .int .i64 pq]) := fun v w => by rw [hR]; rfl
                    have r8 : ∀ v w, R 8 v w = (v = .bool hh) := fun v w => by rw [hR]; rfl
                    have r9 : ∀ v w, R 9 v w = (v = .bool false) := fun v w => by rw [hR]; rfl
                    have r10 : ∀ v w, R 10 v w = (v = .bool false) := fun v w => by rw [hR]; rfl
                    have r11 : ∀ v w, R 11 v w = (v = .bool false) := fun v w => by rw [hR]; rfl
                    have r12 : ∀ v w, R 12 v w = (v = .pointer (some ⟨tt, 0, none⟩)) := fun v w => by rw [hR]; rfl
                    have r13 : ∀ v w, R 13 v w = (v = .int .i64 (B.length : Int)) := fun v w => by rw [hR]; rfl
                    have r14 : ∀ v w, R 14 v w = (v = .pointer (some ⟨qq, 0, none⟩)) := fun v w => by rw [hR]; rfl
                    have r15 : ∀ v w, R 15 v w = (v = .pointer (some ⟨qq, 0, none⟩)) := fun v w => by rw [hR]; rfl
                    have r16 : ∀ v w, R 16 v w = (v = .pointer (some ⟨qq, 0, none⟩)) := fun v w => by rw [hR]; rfl
                    have r17 : ∀ v w, R 17 v w = (v = .slice oq B.length cq) := fun v w => by rw [hR]; rfl
                    have r18 : ∀ v w, R 18 v w = (v = .int .i64 (B.length : Int)) := fun v w => by rw [hR]; rfl
                    have r19 : ∀ v w, R 19 v w = (v = .bool false) := fun v w => by rw [hR]; rfl
                    have r20 : ∀ v w, R 20 v w = (v = .bool false) := fun v w => by rw [hR]; rfl
                    have r21 : ∀ v w, R 21 v w = (v = .bool false) := fun v w => by rw [hR]; rfl
                    have r22 : ∀ v w, R 22 v w = (v = .pointer (some ⟨tt, 0, none⟩)) := fun v w => by rw [hR]; rfl
                    have r23 : ∀ v w, R 23 v w = ((fun v w => Lies w v B) v w) := fun v w => by rw [hR]; rfl
                    have r24 : ∀ v w, R 24 v w = (v = .pointer (some ⟨qq, 0, none⟩)) := fun v w => by rw [hR]; rfl
                    have r25 : ∀ v w, R 25 v w = (v = .pointer (some ⟨qq, 0, none⟩)) := fun v w => by rw [hR]; rfl
                    have r26 : ∀ v w, R 26 v w = (v = .pointer (some ⟨qq, 0, none⟩)) := fun v w => by rw [hR]; rfl
                    have r27 : ∀ v w, R 27 v w = (v = .slice oq B.length cq) := fun v w => by rw [hR]; rfl
                    have r28 : ∀ v w, R 28 v w = (v = .bool true) := fun v w => by rw [hR]; rfl
                    have r29 : ∀ v w, R 29 v w = (v = .bool false) := fun v w => by rw [hR]; rfl
                    have r30 : ∀ v w, R 30 v w = (v = .bool false) := fun v w => by rw [hR]; rfl
                    have r31 : ∀ v w, R 31 v w = (v = .bool false) := fun v w => by rw [hR]; rfl
                    have r32 : ∀ v w, R 32 v w = (v = lv) := fun v w => by rw [hR]; rfl
                    have r33 : ∀ v w, R 33 v w = (v = .pointer (some ⟨qq, 0, none⟩)) := fun v w => by rw [hR]; rfl
                    have r34 : ∀ v w, R 34 v w = (v = .pointer (some ⟨rr, 0, none⟩)) := fun v w => by rw [hR]; rfl
                    have r35 : ∀ v w, R 35 v w = ((fun v w => Lies w v X) v w) := fun v w => by rw [hR]; rfl
                    have r36 : ∀ v w, R 36 v w = (v = .bool true) := fun v w => by rw [hR]; rfl
                    have r37 : ∀ v w, R 37 v w = (v = .bool false) := fun v w => by rw [hR]; rfl
                    have r38 : ∀ v w, R 38 v w = (v = .bool false) := fun v w => by rw [hR]; rfl
                    have r39 : ∀ v w, R 39 v w = (v = .bool false) := fun v w => by rw [hR]; rfl
                    have r40 : ∀ v w, R 40 v w = (v = .pointer (some ⟨ss, 0, none⟩)) := fun v w => by rw [hR]; rfl
                    have r41 : ∀ v w, R 41 v w = ((fun v w => Lies w v A2) v w) := fun v w => by rw [hR]; rfl
                    have r42 : ∀ v w, R 42 v w = (v = .pointer (some ⟨rr, 0, none⟩)) := fun v w => by rw [hR]; rfl
                    have r43 : ∀ v w, R 43 v w = ((fun v w => Lies w v A2) v w) := fun v w => by rw [hR]; rfl
                    have r44 : ∀ v w, R 44 v w = (v = .bool true) := fun v w => by rw [hR]; rfl
                    have r45 : ∀ v w, R 45 v w = (v = .bool false) := fun v w => by rw [hR]; rfl
                    have r46 : ∀ v w, R 46 v w = (v = .bool false) := fun v w => by rw [hR]; rfl
                    have E6 : ∀ (γ : Nat → Value) (L : Nat → Bool) (a : Act) (w : World), RV.Held D WA R (fun γ L W => Five w0 W tt ss qq rr pb vt vs (.slice oq B.length cq) vr m n B B A2 A2 ⟨pa, pq⟩ ∧ Row W7 W lv X) Z γ L a w → a.tmps[6]? = some (.pointer (some ⟨tt, 0, none⟩)) := fun γ L a w hH => (hH.rest 6 (by rw [← hD]; exact RV.dst_free (by kernel_rfl))).trans (by rw [← hZ]; rfl)
                    have E8 : ∀ (γ : Nat → Value) (L : Nat → Bool) (a : Act) (w : World), RV.Held D WA R (fun γ L W => Five w0 W tt ss qq rr pb vt vs (.slice oq B.length cq) vr m n B B A2 A2 ⟨pa, pq⟩ ∧ Row W7 W lv X) Z γ L a w → a.tmps[8]? = some (.pointer (some ⟨qq, 0, none⟩)) := fun γ L a w hH => (hH.rest 8 (by rw [← hD]; exact RV.dst_free (by kernel_rfl))).trans (by rw [← hZ]; rfl)
                    have E10 : ∀ (γ : Nat → Value) (L : Nat → Bool) (a : Act) (w : World), RV.Held D WA R (fun γ L W => Five w0 W tt ss qq rr pb vt vs (.slice oq B.length cq) vr m n B B A2 A2 ⟨pa, pq⟩ ∧ Row W7 W lv X) Z γ L a w → a.tmps[10]? = some (.pointer (some ⟨ss, 0, none⟩)) := fun γ L a w hH => (hH.rest 10 (by rw [← hD]; exact RV.dst_free (by kernel_rfl))).trans (by rw [← hZ]; rfl)
                    have E12 : ∀ (γ : Nat → Value) (L : Nat → Bool) (a : Act) (w : World), RV.Held D WA R (fun γ L W => Five w0 W tt ss qq rr pb vt vs (.slice oq B.length cq) vr m n B B A2 A2 ⟨pa, pq⟩ ∧ Row W7 W lv X) Z γ L a w → a.tmps[12]? = some (.pointer (some ⟨rr, 0, none⟩)) := fun γ L a w hH => (hH.rest 12 (by rw [← hD]; exact RV.dst_free (by kernel_rfl))).trans (by rw [← hZ]; rfl)
                    have E16 : ∀ (γ : Nat → Value) (L : Nat → Bool) (a : Act) (w : World), RV.Held D WA R (fun γ L W => Five w0 W tt ss qq rr pb vt vs (.slice oq B.length cq) vr m n B B A2 A2 ⟨pa, pq⟩ ∧ Row W7 W lv X) Z γ L a w → a.tmps[16]? = some (.pointer (some ⟨pb, 0, none⟩)) := fun γ L a w hH => (hH.rest 16 (by rw [← hD]; exact RV.dst_free (by kernel_rfl))).trans (by rw [← hZ]; rfl)
                    have E17 : ∀ (γ : Nat → Value) (L : Nat → Bool) (a : Act) (w : World), RV.Held D WA R (fun γ L W => Five w0 W tt ss qq rr pb vt vs (.slice oq B.length cq) vr m n B B A2 A2 ⟨pa, pq⟩ ∧ Row W7 W lv X) Z γ L a w → a.tmps[17]? = some (.bool true) := fun γ L a w hH => (hH.rest 17 (by rw [← hD]; exact RV.dst_free (by kernel_rfl))).trans (by rw [← hZ]; rfl)
                    have E22 : ∀ (γ : Nat → Value) (L : Nat → Bool) (a : Act) (w : World), RV.Held D WA R (fun γ L W => Five w0 W tt ss qq rr pb vt vs (.slice oq B.length cq) vr m n B B A2 A2 ⟨pa, pq⟩ ∧ Row W7 W lv X) Z γ L a w → a.tmps[22]? = some (lv) := fun γ L a w hH => (hH.rest 22 (by rw [← hD]; exact RV.dst_free (by kernel_rfl))).trans (by rw [← hZ]; rfl)
                    have K : ∀ j v w w', Below w.heap.size w w' → R j v w → R j v w' := by
                      rw [hR]
                      intro j v w w' hb h
                      revert h
                      dsimp only
                      split
                      all_goals first | exact id | exact fun h => Lies.below h hb
                    clear hD hWA hZ hR
                    refine RV.AllDo.cons 0 (RV.does_pure (fun γ v L w hl h => h) (fun γ L a w hH hl hA => by have e0 := E17 γ L a w hH; exact ⟨.bool true, by simp [execOp, go_sem, e0], (r0 _ _).mpr rfl⟩)) ?_
                    refine RV.AllDo.cons 1 (RV.does_pure (fun γ v L w hl h => h) (fun γ L a w hH hl hA => by have l0 : L 0 = true := hA ⟨0, .data⟩ (by simp) rfl; have e0 := hH.slot 0 153 d0 l0; have g0 := hH.holds 0 l0; rw [r0] at g0; rw [g0] at e0; exact ⟨.bool false, by simp [execOp, go_sem, e0], (r1 _ _).mpr rfl⟩)) ?_
                    refine RV.AllDo.cons 2 (RV.does_pure (fun γ v L w hl h => h) (fun γ L a w hH hl hA => by have l0 : L 1 = true := hA ⟨1, .data⟩ (by simp) rfl; have e0 := hH.slot 1 154 d1 l0; have g0 := hH.holds 1 l0; rw [r1] at g0; rw [g0] at e0; exact ⟨.bool false, by simp [execOp, go_sem, e0], (r2 _ _).mpr rfl⟩)) ?_
                    refine RV.AllDo.cons 3 (RV.does_guarded rfl d2 (fun v w h => by rw [r2] at h; exact h) (by simp) (RV.does_pure (fun γ v L w hl h => h) (fun γ L a w hH hl hA => by have e0 := E6 γ L a w hH; exact ⟨.pointer (some ⟨tt, 0, none⟩), by simp [execOp, go_sem, e0], (r3 _ _).mpr rfl⟩))) ?_
                    refine RV.AllDo.cons 4 (RV.does_guarded rfl d2 (fun v w h => by rw [r2] at h; exact h) (by simp) (RV.does_pure (fun γ v L w hl h => h) (fun γ L a w hH hl hA => by have e0 := E16 γ L a w hH; have z0 := hH.glob.1.d0; have z1 := hH.glob.1.d1; exact ⟨.agg #[.int .i64 pa, .int .i64 pq], by simp [execOp, go_sem, e0, z0, z1], (r4 _ _).mpr rfl⟩))) ?_
                    refine RV.AllDo.cons 5 (RV.does_guarded rfl d2 (fun v w h => by rw [r2] at h; exact h) (by simp) (RV.does_call (fun γ L a w hH hl hA => by have l0 : L 3 = true := hA ⟨3, .data⟩ (by simp) rfl; have e0 := hH.slot 3 156 d3 l0; have g0 := hH.holds 3 l0; rw [r3] at g0; rw [g0] at e0; have l1 : L 4 = true := hA ⟨4, .data⟩ (by simp) rfl; have e1 := hH.slot 4 157 d4 l1; have g1 := hH.holds 4 l1; rw [r4] at g1; rw [g1] at e1; exact ⟨17, #[.pointer (some ⟨tt, 0, none⟩), .agg #[.int .i64 pa, .int .i64 pq]], by simp [go_sem, e0, e1], Calls.mono (has_any tt w0.heap.size vt m B ⟨pa, pq⟩ w hH.glob.1.quad.s) (by rintro e w2 ⟨rfl, hb⟩; exact ⟨_, rfl, (r5 _ _).mpr hhh, fun j v _ h => K j v _ _ hb h, hH.glob.1.step hb, hH.glob.2.step hb⟩)⟩))) ?_
                    refine RV.AllDo.cons 6 (RV.does_guarded rfl d2 (fun v w h => by rw [r2] at h; exact h) (by simp) (RV.does_pure (fun γ v L w hl h => h) (fun γ L a w hH hl hA => by have e0 := E8 γ L a w hH; exact ⟨.pointer (some ⟨qq, 0, none⟩), by simp [execOp, go_sem, e0], (r6 _ _).mpr rfl⟩))) ?_
                    refine RV.AllDo.cons 7 (RV.does_guarded rfl d2 (fun v w h => by rw [r2] at h; exact h) (by simp) (RV.does_pure (fun γ v L w hl h => h) (fun γ L a w hH hl hA => by have e0 := E16 γ L a w hH; have z0 := hH.glob.1.d0; have z1 := hH.glob.1.d1; exact ⟨.agg #[.int .i64 pa, .int .i64 pq], by simp [execOp, go_sem, e0, z0, z1], (r7 _ _).mpr rfl⟩))) ?_
                    refine RV.AllDo.cons 8 (RV.does_guarded rfl d2 (fun v w h => by rw [r2] at h; exact h) (by simp) (RV.does_call (fun γ L a w hH hl hA => by have l0 : L 6 = true := hA ⟨6, .data⟩ (by simp) rfl; have e0 := hH.slot 6 159 d6 l0; have g0 := hH.holds 6 l0; rw [r6] at g0; rw [g0] at e0; have l1 : L 7 = true := hA ⟨7, .data⟩ (by simp) rfl; have e1 := hH.slot 7 160 d7 l1; have g1 := hH.holds 7 l1; rw [r7] at g1; rw [g1] at e1; exact ⟨18, #[.pointer (some ⟨qq, 0, none⟩), .agg #[.int .i64 pa, .int .i64 pq]], by simp [go_sem, e0, e1], Calls.mono (rhas_any qq w0.heap.size (.slice oq B.length cq) m B ⟨pa, pq⟩ w hH.glob.1.quad.r) (by rintro e w2 ⟨rfl, hb⟩; exact ⟨_, rfl, (r8 _ _).mpr hhh, fun j v _ h => K j v _ _ hb h, hH.glob.1.step hb, hH.glob.2.step hb⟩)⟩))) ?_
                    refine RV.AllDo.cons 9 (RV.does_guarded rfl d2 (fun v w h => by rw [r2] at h; exact h) (by simp) (RV.does_pure (fun γ v L w hl h => h) (fun γ L a w hH hl hA => by have l0 : L 5 = true := hA ⟨5, .data⟩ (by simp) rfl; have e0 := hH.slot 5 158 d5 l0; have g0 := hH.holds 5 l0; rw [r5] at g0; rw [g0] at e0; have l1 : L 8 = true := hA ⟨8, .data⟩ (by simp) rfl; have e1 := hH.slot 8 161 d8 l1; have g1 := hH.holds 8 l1; rw [r8] at g1; rw [g1] at e1; exact ⟨.bool false, by simp [execOp, go_sem, e0, e1], (r9 _ _).mpr rfl⟩))) ?_
                    refine RV.AllDo.cons 10 (RV.does_pure (fun γ v L w hl h => h) (fun γ L a w hH hl hA => by have l0 : L 2 = true := hA ⟨2, .data⟩ (by simp) rfl; have e0 := hH.slot 2 155 d2 l0; have g0 := hH.holds 2 l0; rw [r2] at g0; rw [g0] at e0; have l1 : L 9 = true := hA ⟨9, .data⟩ (by simp) rfl; have e1 := hH.slot 9 162 d9 l1; have g1 := hH.holds 9 l1; rw [r9] at g1; rw [g1] at e1; exact ⟨.bool false, by simp [execOp, go_sem, e0, e1], (r10 _ _).mpr rfl⟩)) ?_
                    refine RV.AllDo.cons 11 (RV.does_pure (fun γ v L w hl h => h) (fun γ L a w hH hl hA => by have l0 : L 10 = true := hA ⟨10, .data⟩ (by simp) rfl; have e0 := hH.slot 10 163 d10 l0; have g0 := hH.holds 10 l0; rw [r10] at g0; rw [g0] at e0; exact ⟨.bool false, by simp [execOp, go_sem, e0], (r11 _ _).mpr rfl⟩)) ?_
                    refine RV.AllDo.cons 12 (RV.does_guarded rfl d11 (fun v w h => by rw [r11] at h; exact h) (by simp) (RV.does_pure (fun γ v L w hl h => h) (fun γ L a w hH hl hA => by have e0 := E6 γ L a w hH; exact ⟨.pointer (some ⟨tt, 0, none⟩), by simp [execOp, go_sem, e0], (r12 _ _).mpr rfl⟩))) ?_
                    refine RV.AllDo.cons 13 (RV.does_guarded rfl d11 (fun v w h => by rw [r11] at h; exact h) (by simp) (RV.does_call (fun γ L a w hH hl hA => by have l0 : L 12 = true := hA ⟨12, .data⟩ (by simp) rfl; have e0 := hH.slot 12 165 d12 l0; have g0 := hH.holds 12 l0; rw [r12] at g0; rw [g0] at e0; exact ⟨19, #[.pointer (some ⟨tt, 0, none⟩)], by simp [go_sem, e0], Calls.mono (len_any tt w0.heap.size vt m B w hH.glob.1.quad.s) (by rintro e w2 ⟨rfl, rfl⟩; exact ⟨_, rfl, (r13 _ _).mpr rfl, fun _ _ _ h => h, hH.glob⟩)⟩))) ?_
                    refine RV.AllDo.cons 14 (RV.does_guarded rfl d11 (fun v w h => by rw [r11] at h; exact h) (by simp) (RV.does_pure (fun γ v L w hl h => h) (fun γ L a w hH hl hA => by have e0 := E8 γ L a w hH; exact ⟨.pointer (some ⟨qq, 0, none⟩), by simp [execOp, go_sem, e0], (r14 _ _).mpr rfl⟩))) ?_
                    refine RV.AllDo.cons 15 (RV.does_guarded rfl d11 (fun v w h => by rw [r11] at h; exact h) (by simp) (RV.does_pure (fun γ v L w hl h => h) (fun γ L a w hH hl hA => by have l0 : L 14 = true := hA ⟨14, .data⟩ (by simp) rfl; have e0 := hH.slot 14 167 d14 l0; have g0 := hH.holds 14 l0; rw [r14] at g0; rw [g0] at e0; exact ⟨.pointer (some ⟨qq, 0, none⟩), by simp [execOp, go_sem, e0], (r15 _ _).mpr rfl⟩))) ?_
                    refine RV.AllDo.cons 16 (RV.does_guarded rfl d11 (fun v w h => by rw [r11] at h; exact h) (by simp) (RV.does_pure (fun γ v L w hl h => h) (fun γ L a w hH hl hA => by have l0 : L 15 = true := hA ⟨15, .data⟩ (by simp) rfl; have e0 := hH.slot 15 168 d15 l0; have g0 := hH.holds 15 l0; rw [r15] at g0; rw [g0] at e0; exact ⟨.pointer (some ⟨qq, 0, none⟩), by simp [execOp, go_sem, e0], (r16 _ _).mpr rfl⟩))) ?_
                    refine RV.AllDo.cons 17 (RV.does_guarded rfl d11 (fun v w h => by rw [r11] at h; exact h) (by simp) (RV.does_pure (fun γ v L w hl h => h) (fun γ L a w hH hl hA => by have l0 : L 16 = true := hA ⟨16, .data⟩ (by simp) rfl; have e0 := hH.slot 16 169 d16 l0; have g0 := hH.holds 16 l0; rw [r16] at g0; rw [g0] at e0; have z2 := hH.glob.1.quad.r.c0; exact ⟨.slice oq B.length cq, by simp [execOp, go_sem, e0, z2], (r17 _ _).mpr rfl⟩))) ?_
                    refine RV.AllDo.cons 18 (RV.does_guarded rfl d11 (fun v w h => by rw [r11] at h; exact h) (by simp) (RV.does_pure (fun γ v L w hl h => h) (fun γ L a w hH hl hA => by have l0 : L 17 = true := hA ⟨17, .data⟩ (by simp) rfl; have e0 := hH.slot 17 170 d17 l0; have g0 := hH.holds 17 l0; rw [r17] at g0; rw [g0] at e0; exact ⟨.int .i64 (B.length : Int), by simp [execOp, go_sem, e0], (r18 _ _).mpr rfl⟩))) ?_
                    refine RV.AllDo.cons 19 (RV.does_guarded rfl d11 (fun v w h => by rw [r11] at h; exact h) (by simp) (RV.does_pure (fun γ v L w hl h => h) (fun γ L a w hH hl hA => by have l0 : L 13 = true := hA ⟨13, .data⟩ (by simp) rfl; have e0 := hH.slot 13 166 d13 l0; have g0 := hH.holds 13 l0; rw [r13] at g0; rw [g0] at e0; have l1 : L 18 = true := hA ⟨18, .data⟩ (by simp) rfl; have e1 := hH.slot 18 171 d18 l1; have g1 := hH.holds 18 l1; rw [r18] at g1; rw [g1] at e1; exact ⟨.bool false, by simp [execOp, go_sem, e0, e1], (r19 _ _).mpr rfl⟩))) ?_
                    refine RV.AllDo.cons 20 (RV.does_pure (fun γ v L w hl h => h) (fun γ L a w hH hl hA => by have l0 : L 11 = true := hA ⟨11, .data⟩ (by simp) rfl; have e0 := hH.slot 11 164 d11 l0; have g0 := hH.holds 11 l0; rw [r11] at g0; rw [g0] at e0; have l1 : L 19 = true := hA ⟨19, .data⟩ (by simp) rfl; have e1 := hH.slot 19 172 d19 l1; have g1 := hH.holds 19 l1; rw [r19] at g1; rw [g1] at e1; exact ⟨.bool false, by simp [execOp, go_sem, e0, e1], (r20 _ _).mpr rfl⟩)) ?_
                    refine RV.AllDo.cons 21 (RV.does_pure (fun γ v L w hl h => h) (fun γ L a w hH hl hA => by have l0 : L 20 = true := hA ⟨20, .data⟩ (by simp) rfl; have e0 := hH.slot 20 173 d20 l0; have g0 := hH.holds 20 l0; rw [r20] at g0; rw [g0] at e0; exact ⟨.bool false, by simp [execOp, go_sem, e0], (r21 _ _).mpr rfl⟩)) ?_
                    refine RV.AllDo.cons 22 (RV.does_guarded rfl d21 (fun v w h => by rw [r21] at h; exact h) (by simp) (RV.does_pure (fun γ v L w hl h => h) (fun γ L a w hH hl hA => by have e0 := E6 γ L a w hH; exact ⟨.pointer (some ⟨tt, 0, none⟩), by simp [execOp, go_sem, e0], (r22 _ _).mpr rfl⟩))) ?_
                    refine RV.AllDo.cons 23 (RV.does_guarded rfl d21 (fun v w h => by rw [r21] at h; exact h) (by simp) (RV.does_call (fun γ L a w hH hl hA => by have l0 : L 22 = true := hA ⟨22, .data⟩ (by simp) rfl; have e0 := hH.slot 22 175 d22 l0; have g0 := hH.holds 22 l0; rw [r22] at g0; rw [g0] at e0; exact ⟨21, #[.pointer (some ⟨tt, 0, none⟩)], by simp [go_sem, e0], Calls.mono (all_any tt w0.heap.size vt m B w hH.glob.1.quad.s) (by rintro e w2 ⟨u, rfl, hu, hb⟩; exact ⟨_, rfl, (r23 _ _).mpr (Lies.of_row hu), fun j v _ h => K j v _ _ hb h, hH.glob.1.step hb, hH.glob.2.step hb⟩)⟩))) ?_
                    refine RV.AllDo.cons 24 (RV.does_guarded rfl d21 (fun v w h => by rw [r21] at h; exact h) (by simp) (RV.does_pure (fun γ v L w hl h => h) (fun γ L a w hH hl hA => by have e0 := E8 γ L a w hH; exact ⟨.pointer (some ⟨qq, 0, none⟩), by simp [execOp, go_sem, e0], (r24 _ _).mpr rfl⟩))) ?_
                    refine RV.AllDo.cons 25 (RV.does_guarded rfl d21 (fun v w h => by rw [r21] at h; exact h) (by simp) (RV.does_pure (fun γ v L w hl h => h) (fun γ L a w hH hl hA => by have l0 : L 24 = true := hA ⟨24, .data⟩ (by simp) rfl; have e0 := hH.slot 24 177 d24 l0; have g0 := hH.holds 24 l0; rw [r24] at g0; rw [g0] at e0; exact ⟨.pointer (some ⟨qq, 0, none⟩), by simp [execOp, go_sem, e0], (r25 _ _).mpr rfl⟩))) ?_
                    refine RV.AllDo.cons 26 (RV.does_guarded rfl d21 (fun v w h => by rw [r21] at h; exact h) (by simp) (RV.does_pure (fun γ v L w hl h => h) (fun γ L a w hH hl hA => by have l0 : L 25 = true := hA ⟨25, .data⟩ (by simp) rfl; have e0 := hH.slot 25 178 d25 l0; have g0 := hH.holds 25 l0; rw [r25] at g0; rw [g0] at e0; exact ⟨.pointer (some ⟨qq, 0, none⟩), by simp [execOp, go_sem, e0], (r26 _ _).mpr rfl⟩))) ?_
                    refine RV.AllDo.cons 27 (RV.does_guarded rfl d21 (fun v w h => by rw [r21] at h; exact h) (by simp) (RV.does_pure (fun γ v L w hl h => h) (fun γ L a w hH hl hA => by have l0 : L 26 = true := hA ⟨26, .data⟩ (by simp) rfl; have e0 := hH.slot 26 179 d26 l0; have g0 := hH.holds 26 l0; rw [r26] at g0; rw [g0] at e0; have z2 := hH.glob.1.quad.r.c0; exact ⟨.slice oq B.length cq, by simp [execOp, go_sem, e0, z2], (r27 _ _).mpr rfl⟩))) ?_
                    refine RV.AllDo.cons 28 (RV.does_guarded rfl d21 (fun v w h => by rw [r21] at h; exact h) (by simp) (RV.does_call (fun γ L a w hH hl hA => by have l0 : L 23 = true := hA ⟨23, .data⟩ (by simp) rfl; have e0 := hH.slot 23 176 d23 l0; have g0 := hH.holds 23 l0; rw [r23] at g0; have l1 : L 27 = true := hA ⟨27, .data⟩ (by simp) rfl; have e1 := hH.slot 27 180 d27 l1; have g1 := hH.holds 27 l1; rw [r27] at g1; rw [g1] at e1; exact ⟨20, #[γ 23, .slice oq B.length cq], by simp [go_sem, e0, e1], Calls.mono (same_any _ _ B B w g0 (Lies.of_row hH.glob.1.quad.r.own)) (by rintro e w2 ⟨rfl, hb⟩; exact ⟨_, rfl, (r28 _ _).mpr (by rw [decide_eq_true rfl]), fun j v _ h => K j v _ _ hb h, hH.glob.1.step hb, hH.glob.2.step hb⟩)⟩))) ?_
                    refine RV.AllDo.cons 29 (RV.does_guarded rfl d21 (fun v w h => by rw [r21] at h; exact h) (by simp) (RV.does_pure (fun γ v L w hl h => h) (fun γ L a w hH hl hA => by have l0 : L 28 = true := hA ⟨28, .data⟩ (by simp) rfl; have e0 := hH.slot 28 181 d28 l0; have g0 := hH.holds 28 l0; rw [r28] at g0; rw [g0] at e0; exact ⟨.bool false, by simp [execOp, go_sem, e0], (r29 _ _).mpr rfl⟩))) ?_
                    refine RV.AllDo.cons 30 (RV.does_pure (fun γ v L w hl h => h) (fun γ L a w hH hl hA => by have l0 : L 21 = true := hA ⟨21, .data⟩ (by simp) rfl; have e0 := hH.slot 21 174 d21 l0; have g0 := hH.holds 21 l0; rw [r21] at g0; rw [g0] at e0; have l1 : L 29 = true := hA ⟨29, .data⟩ (by simp) rfl; have e1 := hH.slot 29 182 d29 l1; have g1 := hH.holds 29 l1; rw [r29] at g1; rw [g1] at e1; exact ⟨.bool false, by simp [execOp, go_sem, e0, e1], (r30 _ _).mpr rfl⟩)) ?_
                    refine RV.AllDo.cons 31 (RV.does_pure (fun γ v L w hl h => h) (fun γ L a w hH hl hA => by have l0 : L 30 = true := hA ⟨30, .data⟩ (by simp) rfl; have e0 := hH.slot 30 183 d30 l0; have g0 := hH.holds 30 l0; rw [r30] at g0; rw [g0] at e0; exact ⟨.bool false, by simp [execOp, go_sem, e0], (r31 _ _).mpr rfl⟩)) ?_
                    refine RV.AllDo.cons 32 (RV.does_guarded rfl d31 (fun v w h => by rw [r31] at h; exact h) (by simp) (RV.does_pure (fun γ v L w hl h => h) (fun γ L a w hH hl hA => by have e0 := E22 γ L a w hH; exact ⟨lv, by simp [execOp, go_sem, e0], (r32 _ _).mpr rfl⟩))) ?_
                    refine RV.AllDo.cons 33 (RV.does_guarded rfl d31 (fun v w h => by rw [r31] at h; exact h) (by simp) (RV.does_pure (fun γ v L w hl h => h) (fun γ L a w hH hl hA => by have e0 := E8 γ L a w hH; exact ⟨.pointer (some ⟨qq, 0, none⟩), by simp [execOp, go_sem, e0], (r33 _ _).mpr rfl⟩))) ?_
                    refine RV.AllDo.cons 34 (RV.does_guarded rfl d31 (fun v w h => by rw [r31] at h; exact h) (by simp) (RV.does_pure (fun γ v L w hl h => h) (fun γ L a w hH hl hA => by have e0 := E12 γ L a w hH; exact ⟨.pointer (some ⟨rr, 0, none⟩), by simp [execOp, go_sem, e0], (r34 _ _).mpr rfl⟩))) ?_
                    refine RV.AllDo.cons 35 (RV.does_guarded rfl d31 (fun v w h => by rw [r31] at h; exact h) (by simp) (RV.does_call (fun γ L a w hH hl hA => by have l0 : L 33 = true := hA ⟨33, .data⟩ (by simp) rfl; have e0 := hH.slot 33 186 d33 l0; have g0 := hH.holds 33 l0; rw [r33] at g0; rw [g0] at e0; have l1 : L 34 = true := hA ⟨34, .data⟩ (by simp) rfl; have e1 := hH.slot 34 187 d34 l1; have g1 := hH.holds 34 l1; rw [r34] at g1; rw [g1] at e1; exact ⟨22, #[.pointer (some ⟨qq, 0, none⟩), .pointer (some ⟨rr, 0, none⟩)], by simp [go_sem, e0, e1], Calls.mono (rbeyond_some qq w0.heap.size (.slice oq B.length cq) m B rr w0.heap.size vr n A2 w hH.glob.1.quad.r hH.glob.1.quad.q) (by rintro e w2 ⟨u, rfl, hu, hb⟩; exact ⟨_, rfl, (r35 _ _).mpr (by rw [hX] at hu; exact Lies.of_row hu), fun j v _ h => K j v _ _ hb h, hH.glob.1.step hb, hH.glob.2.step hb⟩)⟩))) ?_
                    refine RV.AllDo.cons 36 (RV.does_guarded rfl d31 (fun v w h => by rw [r31] at h; exact h) (by simp) (RV.does_call (fun γ L a w hH hl hA => by have l0 : L 32 = true := hA ⟨32, .data⟩ (by simp) rfl; have e0 := hH.slot 32 185 d32 l0; have g0 := hH.holds 32 l0; rw [r32] at g0; rw [g0] at e0; have l1 : L 35 = true := hA ⟨35, .data⟩ (by simp) rfl; have e1 := hH.slot 35 188 d35 l1; have g1 := hH.holds 35 l1; rw [r35] at g1; exact ⟨20, #[lv, γ 35], by simp [go_sem, e0, e1], Calls.mono (same_any _ _ X X w (Lies.of_row hH.glob.2.row) g1) (by rintro e w2 ⟨rfl, hb⟩; exact ⟨_, rfl, (r36 _ _).mpr (by rw [decide_eq_true rfl]), fun j v _ h => K j v _ _ hb h, hH.glob.1.step hb, hH.glob.2.step hb⟩)⟩))) ?_
                    refine RV.AllDo.cons 37 (RV.does_guarded rfl d31 (fun v w h => by rw [r31] at h; exact h) (by simp) (RV.does_pure (fun γ v L w hl h => h) (fun γ L a w hH hl hA => by have l0 : L 36 = true := hA ⟨36, .data⟩ (by simp) rfl; have e0 := hH.slot 36 189 d36 l0; have g0 := hH.holds 36 l0; rw [r36] at g0; rw [g0] at e0; exact ⟨.bool false, by simp [execOp, go_sem, e0], (r37 _ _).mpr rfl⟩))) ?_
                    refine RV.AllDo.cons 38 (RV.does_pure (fun γ v L w hl h => h) (fun γ L a w hH hl hA => by have l0 : L 31 = true := hA ⟨31, .data⟩ (by simp) rfl; have e0 := hH.slot 31 184 d31 l0; have g0 := hH.holds 31 l0; rw [r31] at g0; rw [g0] at e0; have l1 : L 37 = true := hA ⟨37, .data⟩ (by simp) rfl; have e1 := hH.slot 37 190 d37 l1; have g1 := hH.holds 37 l1; rw [r37] at g1; rw [g1] at e1; exact ⟨.bool false, by simp [execOp, go_sem, e0, e1], (r38 _ _).mpr rfl⟩)) ?_
                    refine RV.AllDo.cons 39 (RV.does_pure (fun γ v L w hl h => h) (fun γ L a w hH hl hA => by have l0 : L 38 = true := hA ⟨38, .data⟩ (by simp) rfl; have e0 := hH.slot 38 191 d38 l0; have g0 := hH.holds 38 l0; rw [r38] at g0; rw [g0] at e0; exact ⟨.bool false, by simp [execOp, go_sem, e0], (r39 _ _).mpr rfl⟩)) ?_
                    refine RV.AllDo.cons 40 (RV.does_guarded rfl d39 (fun v w h => by rw [r39] at h; exact h) (by simp) (RV.does_pure (fun γ v L w hl h => h) (fun γ L a w hH hl hA => by have e0 := E10 γ L a w hH; exact ⟨.pointer (some ⟨ss, 0, none⟩), by simp [execOp, go_sem, e0], (r40 _ _).mpr rfl⟩))) ?_
                    refine RV.AllDo.cons 41 (RV.does_guarded rfl d39 (fun v w h => by rw [r39] at h; exact h) (by simp) (RV.does_call (fun γ L a w hH hl hA => by have l0 : L 40 = true := hA ⟨40, .data⟩ (by simp) rfl; have e0 := hH.slot 40 193 d40 l0; have g0 := hH.holds 40 l0; rw [r40] at g0; rw [g0] at e0; exact ⟨16, #[.pointer (some ⟨ss, 0, none⟩), .pointer none], by simp [go_sem, e0], Calls.mono (beyond_nil ss w0.heap.size vs n A2 w hH.glob.1.quad.t) (by rintro e w2 ⟨u, rfl, hu, hb⟩; exact ⟨_, rfl, (r41 _ _).mpr (Lies.of_row hu), fun j v _ h => K j v _ _ hb h, hH.glob.1.step hb, hH.glob.2.step hb⟩)⟩))) ?_
                    refine RV.AllDo.cons 42 (RV.does_guarded rfl d39 (fun v w h => by rw [r39] at h; exact h) (by simp) (RV.does_pure (fun γ v L w hl h => h) (fun γ L a w hH hl hA => by have e0 := E12 γ L a w hH; exact ⟨.pointer (some ⟨rr, 0, none⟩), by simp [execOp, go_sem, e0], (r42 _ _).mpr rfl⟩))) ?_
                    refine RV.AllDo.cons 43 (RV.does_guarded rfl d39 (fun v w h => by rw [r39] at h; exact h) (by simp) (RV.does_call (fun γ L a w hH hl hA => by have l0 : L 42 = true := hA ⟨42, .data⟩ (by simp) rfl; have e0 := hH.slot 42 195 d42 l0; have g0 := hH.holds 42 l0; rw [r42] at g0; rw [g0] at e0; exact ⟨22, #[.pointer (some ⟨rr, 0, none⟩), .pointer none], by simp [go_sem, e0], Calls.mono (rbeyond_nil rr w0.heap.size vr n A2 w hH.glob.1.quad.q) (by rintro e w2 ⟨u, rfl, hu, hb⟩; exact ⟨_, rfl, (r43 _ _).mpr (Lies.of_row hu), fun j v _ h => K j v _ _ hb h, hH.glob.1.step hb, hH.glob.2.step hb⟩)⟩))) ?_
                    refine RV.AllDo.cons 44 (RV.does_guarded rfl d39 (fun v w h => by rw [r39] at h; exact h) (by simp) (RV.does_call (fun γ L a w hH hl hA => by have l0 : L 41 = true := hA ⟨41, .data⟩ (by simp) rfl; have e0 := hH.slot 41 194 d41 l0; have g0 := hH.holds 41 l0; rw [r41] at g0; have l1 : L 43 = true := hA ⟨43, .data⟩ (by simp) rfl; have e1 := hH.slot 43 196 d43 l1; have g1 := hH.holds 43 l1; rw [r43] at g1; exact ⟨20, #[γ 41, γ 43], by simp [go_sem, e0, e1], Calls.mono (same_any _ _ A2 A2 w g0 g1) (by rintro e w2 ⟨rfl, hb⟩; exact ⟨_, rfl, (r44 _ _).mpr (by rw [decide_eq_true rfl]), fun j v _ h => K j v _ _ hb h, hH.glob.1.step hb, hH.glob.2.step hb⟩)⟩))) ?_
                    refine RV.AllDo.cons 45 (RV.does_guarded rfl d39 (fun v w h => by rw [r39] at h; exact h) (by simp) (RV.does_pure (fun γ v L w hl h => h) (fun γ L a w hH hl hA => by have l0 : L 44 = true := hA ⟨44, .data⟩ (by simp) rfl; have e0 := hH.slot 44 197 d44 l0; have g0 := hH.holds 44 l0; rw [r44] at g0; rw [g0] at e0; exact ⟨.bool false, by simp [execOp, go_sem, e0], (r45 _ _).mpr rfl⟩))) ?_
                    refine RV.AllDo.cons 46 (RV.does_pure (fun γ v L w hl h => h) (fun γ L a w hH hl hA => by have l0 : L 39 = true := hA ⟨39, .data⟩ (by simp) rfl; have e0 := hH.slot 39 192 d39 l0; have g0 := hH.holds 39 l0; rw [r39] at g0; rw [g0] at e0; have l1 : L 45 = true := hA ⟨45, .data⟩ (by simp) rfl; have e1 := hH.slot 45 198 d45 l1; have g1 := hH.holds 45 l1; rw [r45] at g1; rw [g1] at e1; exact ⟨.bool false, by simp [execOp, go_sem, e0, e1], (r46 _ _).mpr rfl⟩)) ?_
                    exact RV.AllDo.nil
                  · intro γ a5 w5 L9 hL hLo hH
                    have ha := RV.held_act hH hL (by kernel_rfl) (by kernel_rfl)
                    have hF := hH.glob
                    have q46 : γ 46 = .bool false := hH.holds 46 (hL 46 (by decide))
                    rw [ha]
                    clear ha hH hL hLo
                    simp only [RV.putAll, Act.put, List.setIfInBounds_toArray, List.set_cons_zero, List.set_cons_succ, Nat.zero_add, Nat.reduceAdd]
                    rw [q46]
                    go_wp2_with (fail)
                    go_meet
                    case rel => exact ⟨rfl, hF.1, hF.2⟩
                case rest =>
                  clear HF HW
                  obtain ⟨rfl, HF, HW⟩ := hcut
                  obtain ⟨rw9, bw9⟩ := HW.out
                  have hvl := HVL.out
                  subst hvl
                  have HL : Hid (∃ xs, wc.ownsRow W7.heap.size 35 2 (.slice ol X.length cl) X.length xs) := ⟨_, rw9⟩
                  have HBW : Hid _ := bw9
                  obtain ⟨W8, hW8⟩ : ∃ W, W = wc := ⟨_, rfl⟩
                  rw [← hW8] at HL HBW ⊢
                  clear rw9 bw9 HF HW HVL hW8
                  have hXl : X.length ≤ 4096 := by
                    rw [← HX.out]
                    exact Nat.le_trans (minus_length B (some A2)) (Nat.le_trans HFC.out.quad.s.len HFC.out.quad.s.rm)
                  go_wp2_with (fail)
                  go_loopg [23] X.length (fun g i wx => ∃ j : Nat, i = .int .i64 (j : Int) ∧ j ≤ X.length ∧ g = X.length - j ∧ Hid (∃ xs, wx.ownsRow W7.heap.size 35 2 (.slice ol X.length cl) X.length xs) ∧ Hid (Below W7.heap.size W7 wx))
                  case atStart => exact ⟨0, rfl, Nat.zero_le _, rfl, HL, HBW⟩
                  case round =>
                    clear HL HBW
                    obtain ⟨j, rfl, hj, hg2, HL, HBW⟩ := hrel
                    have HG2 : Hid _ := hg2
                    clear hg2
                    by_cases hjx : j < X.length
                    · obtain ⟨xs, ho⟩ := HL.out
                      rcases ho.2 with ⟨_, h0⟩ | ⟨g, cap2, cur, e2, hbg, hgg, h11, h22, h33, h44⟩
                      · omega
                      · simp only [Value.slice.injEq, true_and] at e2
                        obtain ⟨rfl, rfl⟩ := e2
                        have hcur : j * 2 < cur.size := by rw [h33]; omega
                        have y0 : wr.cell? ⟨g, j * 2, none⟩ = some cur[j * 2] := by simp [World.cell?, hgg, hcur]
                        have yf : wr.frozen? ⟨g, j * 2, none⟩ = false := by simp [World.frozen?, hgg]
                        obtain ⟨s1, s2⟩ := World.ownsRow.stored ho (j * 2) (.int .i64 (-9))
                        have HL2 : Hid (∃ xs, (wr.setCell ⟨g, j * 2, none⟩ (.int .i64 (-9))).ownsRow W7.heap.size 35 2 (.slice (some ⟨g, 0, none⟩) X.length cl) X.length xs) := ⟨_, s1⟩
                        have HBW2 : Hid (Below W7.heap.size W7 (wr.setCell ⟨g, j * 2, none⟩ (.int .i64 (-9)))) := HBW.out.setCell hbg _
                        generalize cur[j * 2] = yv at y0
                        clear ho h33 h44 hgg hcur s1 s2 HL HBW h22
                        --@in
                        go_wp2_with (fail)
                        go_roundg (X.length - (j + 1))
                        case measure => have := HG2.out; omega
                        case rel => exact ⟨j + 1, by go_num, by omega, rfl, HL2, HBW2⟩
                    · have hjx' : ¬ (j : Int) < (X.length : Int) := by omega
                      have HQ9 : Hid _ := (HFC.out.step HBW.out).quad
                      rw [hw0] at HQ9
                      clear HL HBW
                      --@in2
                      go_wp2_with (fail)
                      go_roundg (min len 200 - (k + 1))
                      case measure => have := HG.out; omega
                      case rel => exact ⟨k + 1, tt, ss, qq, rr, m, n, vt, vs, _, vr, B, A2, rfl, rfl, rfl, rfl, by go_num, by omega, by omega, rfl, HQ9⟩
      · obtain ⟨w0, hw0⟩ : ∃ x, x = w := ⟨_, rfl⟩
        have HQ0 : Hid (Quad w0 wr ss tt rr qq vs vt vr vq n m A A B B) := by rw [hw0]; exact HQ.out
        clear HQ hg
        go_wp2_with (fail)
        refine RV.region_by (fun j v w => match j with | 0 => v = .pointer (some ⟨ss, 0, none⟩) | 1 => (fun v w => Lies w v A) v w | 2 => v = .pointer (some ⟨rr, 0, none⟩) | 3 => v = .pointer (some ⟨rr, 0, none⟩) | 4 => v = .pointer (some ⟨rr, 0, none⟩) | 5 => v = vr | 6 => v = .bool true | 7 => v = .bool true | 8 => v = .pointer (some ⟨tt, 0, none⟩) | 9 => (fun v w => Lies w v B) v w | 10 => v = .pointer (some ⟨qq, 0, none⟩) | 11 => v = .pointer (some ⟨qq, 0, none⟩) | 12 => v = .pointer (some ⟨qq, 0, none⟩) | 13 => v = vq | 14 => v = .bool true | 15 => v = .bool true | 16 => v = .bool true | _ => True) (fun γ L W => Quad w0 W ss tt rr qq vs vt vr vq n m A A B B) (by kernel_rfl) (by kernel_rfl) (by kernel_rfl) (by kernel_rfl) ?_ ?_ ?_
        · exact HQ0.out.step (Below.refl _ _).drew
        · generalize hD : dstOf _ = D
          generalize hWA : waitsFor _ = WA
          generalize hZ : Act.mk _ _ = Z
          obtain ⟨R, hR⟩ : ∃ R : Nat → Value → World → Prop, R = (fun j v w => match j with | 0 => v = .pointer (some ⟨ss, 0, none⟩) | 1 => (fun v w => Lies w v A) v w | 2 => v = .pointer (some ⟨rr, 0, none⟩) | 3 => v = .pointer (some ⟨rr, 0, none⟩) | 4 => v = .pointer (some ⟨rr, 0, none⟩) | 5 => v = vr | 6 => v = .bool true | 7 => v = .bool true | 8 => v = .pointer (some ⟨tt, 0, none⟩) | 9 => (fun v w => Lies w v B) v w | 10 => v = .pointer (some ⟨qq, 0, none⟩) | 11 => v = .pointer (some ⟨qq, 0, none⟩) | 12 => v = .pointer (some ⟨qq, 0, none⟩) | 13 => v = vq | 14 => v = .bool true | 15 => v = .bool true | 16 => v = .bool true | _ => True) := ⟨_, rfl⟩
          rw [← hR]
          have d0 : D 0 = some 210 := by rw [← hD]; rfl
          have d1 : D 1 = some 211 := by rw [← hD]; rfl
          have d2 : D 2 = some 212 := by rw [← hD]; rfl
          have d3 : D 3 = some 213 := by rw [← hD]; rfl
          have d4 : D 4 = some 214 := by rw [← hD]; rfl
          have d5 : D 5 = some 215 := by rw [← hD]; rfl
          have d6 : D 6 = some 216 := by rw [← hD]; rfl
          have d7 : D 7 = some 217 := by rw [← hD]; rfl
          have d8 : D 8 = some 218 := by rw [← hD]; rfl
          have d9 : D 9 = some 219 := by rw [← hD]; rfl
          have d10 : D 10 = some 220 := by rw [← hD]; rfl
          have d11 : D 11 = some 221 := by rw [← hD]; rfl
          have d12 : D 12 = some 222 := by rw [← hD]; rfl
          have d13 : D 13 = some 223 := by rw [← hD]; rfl
          have d14 : D 14 = some 224 := by rw [← hD]; rfl
          have d15 : D 15 = some 225 := by rw [← hD]; rfl
          have d16 : D 16 = some 4 := by rw [← hD]; rfl
          have r0 : ∀ v w, R 0 v w = (v = .pointer (some ⟨ss, 0, none⟩)) := fun v w => by rw [hR]; rfl
          have r1 : ∀ v w, R 1 v w = ((fun v w => Lies w v A) v w) := fun v w => by rw [hR]; rfl
          have r2 : ∀ v w, R 2 v w = (v = .pointer (some ⟨rr, 0, none⟩)) := fun v w => by rw [hR]; rfl
          have r3 : ∀ v w, R 3 v w = (v = .pointer (some ⟨rr, 0, none⟩)) := fun v w => by rw [hR]; rfl
          have r4 : ∀ v w, R 4 v w = (v = .pointer (some ⟨rr, 0, none⟩)) := fun v w => by rw [hR]; rfl
          have r5 : ∀ v w, R 5 v w = (v = vr) := fun v w => by rw [hR]; rfl
          have r6 : ∀ v w, R 6 v w = (v = .bool true) := fun v w => by rw [hR]; rfl
          have r7 : ∀ v w, R 7 v w = (v = .bool true) := fun v w => by rw [hR]; rfl
          have r8 : ∀ v w, R 8 v w = (v = .pointer (some ⟨tt, 0, none⟩)) := fun v w => by rw [hR]; rfl
          have r9 : ∀ v w, R 9 v w = ((fun v w => Lies w v B) v w) := fun v w => by rw [hR]; rfl
          have r10 : ∀ v w, R 10 v w = (v = .pointer (some ⟨qq, 0, none⟩)) := fun v w => by rw [hR]; rfl
          have r11 : ∀ v w, R 11 v w = (v = .pointer (some ⟨qq, 0, none⟩)) := fun v w => by rw [hR]; rfl
          have r12 : ∀ v w, R 12 v w = (v = .pointer (some ⟨qq, 0, none⟩)) := fun v w => by rw [hR]; rfl
          have r13 : ∀ v w, R 13 v w = (v = vq) := fun v w => by rw [hR]; rfl
          have r14 : ∀ v w, R 14 v w = (v = .bool true) := fun v w => by rw [hR]; rfl
          have r15 : ∀ v w, R 15 v w = (v = .bool true) := fun v w => by rw [hR]; rfl
          have r16 : ∀ v w, R 16 v w = (v = .bool true) := fun v w => by rw [hR]; rfl
          have E6 : ∀ (γ : Nat → Value) (L : Nat → Bool) (a : Act) (w : World), RV.Held D WA R (fun γ L W => Quad w0 W ss tt rr qq vs vt vr vq n m A A B B) Z γ L a w → a.tmps[6]? = some (.pointer (some ⟨ss, 0, none⟩)) := fun γ L a w hH => (hH.rest 6 (by rw [← hD]; exact RV.dst_free (by kernel_rfl))).trans (by rw [← hZ]; rfl)
          have E8 : ∀ (γ : Nat → Value) (L : Nat → Bool) (a : Act) (w : World), RV.Held D WA R (fun γ L W => Quad w0 W ss tt rr qq vs vt vr vq n m A A B B) Z γ L a w → a.tmps[8]? = some (.pointer (some ⟨rr, 0, none⟩)) := fun γ L a w hH => (hH.rest 8 (by rw [← hD]; exact RV.dst_free (by kernel_rfl))).trans (by rw [← hZ]; rfl)
          have E10 : ∀ (γ : Nat → Value) (L : Nat → Bool) (a : Act) (w : World), RV.Held D WA R (fun γ L W => Quad w0 W ss tt rr qq vs vt vr vq n m A A B B) Z γ L a w → a.tmps[10]? = some (.pointer (some ⟨tt, 0, none⟩)) := fun γ L a w hH => (hH.rest 10 (by rw [← hD]; exact RV.dst_free (by kernel_rfl))).trans (by rw [← hZ]; rfl)
          have E12 : ∀ (γ : Nat → Value) (L : Nat → Bool) (a : Act) (w : World), RV.Held D WA R (fun γ L W => Quad w0 W ss tt rr qq vs vt vr vq n m A A B B) Z γ L a w → a.tmps[12]? = some (.pointer (some ⟨qq, 0, none⟩)) := fun γ L a w hH => (hH.rest 12 (by rw [← hD]; exact RV.dst_free (by kernel_rfl))).trans (by rw [← hZ]; rfl)
          have K : ∀ j v w w', Below w.heap.size w w' → R j v w → R j v w' := by
            rw [hR]
            intro j v w w' hb h
            revert h
            dsimp only
            split
            all_goals first | exact id | exact fun h => Lies.below h hb
          clear hD hWA hZ hR
          refine RV.AllDo.cons 0 (RV.does_pure (fun γ v L w hl h => h) (fun γ L a w hH hl hA => by have e0 := E6 γ L a w hH; exact ⟨.pointer (some ⟨ss, 0, none⟩), by simp [execOp, go_sem, e0], (r0 _ _).mpr rfl⟩)) ?_
          refine RV.AllDo.cons 1 (RV.does_call (fun γ L a w hH hl hA => by have l0 : L 0 = true := hA ⟨0, .data⟩ (by simp) rfl; have e0 := hH.slot 0 210 d0 l0; have g0 := hH.holds 0 l0; rw [r0] at g0; rw [g0] at e0; exact ⟨21, #[.pointer (some ⟨ss, 0, none⟩)], by simp [go_sem, e0], Calls.mono (all_any ss w0.heap.size vs n A w hH.glob.s) (by rintro e w2 ⟨u, rfl, hu, hb⟩; exact ⟨_, rfl, (r1 _ _).mpr (Lies.of_row hu), fun j v _ h => K j v _ _ hb h, hH.glob.step hb⟩)⟩)) ?_
          refine RV.AllDo.cons 2 (RV.does_pure (fun γ v L w hl h => h) (fun γ L a w hH hl hA => by have e0 := E8 γ L a w hH; exact ⟨.pointer (some ⟨rr, 0, none⟩), by simp [execOp, go_sem, e0], (r2 _ _).mpr rfl⟩)) ?_
          refine RV.AllDo.cons 3 (RV.does_pure (fun γ v L w hl h => h) (fun γ L a w hH hl hA => by have l0 : L 2 = true := hA ⟨2, .data⟩ (by simp) rfl; have e0 := hH.slot 2 212 d2 l0; have g0 := hH.holds 2 l0; rw [r2] at g0; rw [g0] at e0; exact ⟨.pointer (some ⟨rr, 0, none⟩), by simp [execOp, go_sem, e0], (r3 _ _).mpr rfl⟩)) ?_
          refine RV.AllDo.cons 4 (RV.does_pure (fun γ v L w hl h => h) (fun γ L a w hH hl hA => by have l0 : L 3 = true := hA ⟨3, .data⟩ (by simp) rfl; have e0 := hH.slot 3 213 d3 l0; have g0 := hH.holds 3 l0; rw [r3] at g0; rw [g0] at e0; exact ⟨.pointer (some ⟨rr, 0, none⟩), by simp [execOp, go_sem, e0], (r4 _ _).mpr rfl⟩)) ?_
          refine RV.AllDo.cons 5 (RV.does_pure (fun γ v L w hl h => h) (fun γ L a w hH hl hA => by have l0 : L 4 = true := hA ⟨4, .data⟩ (by simp) rfl; have e0 := hH.slot 4 214 d4 l0; have g0 := hH.holds 4 l0; rw [r4] at g0; rw [g0] at e0; have z2 := hH.glob.r.c0; exact ⟨vr, by simp [execOp, go_sem, e0, z2], (r5 _ _).mpr rfl⟩)) ?_
          refine RV.AllDo.cons 6 (RV.does_call (fun γ L a w hH hl hA => by have l0 : L 1 = true := hA ⟨1, .data⟩ (by simp) rfl; have e0 := hH.slot 1 211 d1 l0; have g0 := hH.holds 1 l0; rw [r1] at g0; have l1 : L 5 = true := hA ⟨5, .data⟩ (by simp) rfl; have e1 := hH.slot 5 215 d5 l1; have g1 := hH.holds 5 l1; rw [r5] at g1; rw [g1] at e1; exact ⟨20, #[γ 1, vr], by simp [go_sem, e0, e1], Calls.mono (same_any _ _ A A w g0 (Lies.of_row hH.glob.r.own)) (by rintro e w2 ⟨rfl, hb⟩; exact ⟨_, rfl, (r6 _ _).mpr (by rw [decide_eq_true rfl]), fun j v _ h => K j v _ _ hb h, hH.glob.step hb⟩)⟩)) ?_
          refine RV.AllDo.cons 7 (RV.does_pure (fun γ v L w hl h => h) (fun γ L a w hH hl hA => by have l0 : L 6 = true := hA ⟨6, .data⟩ (by simp) rfl; have e0 := hH.slot 6 216 d6 l0; have g0 := hH.holds 6 l0; rw [r6] at g0; rw [g0] at e0; exact ⟨.bool true, by simp [execOp, go_sem, e0], (r7 _ _).mpr rfl⟩)) ?_
          refine RV.AllDo.cons 8 (RV.does_guarded rfl d7 (fun v w h => by rw [r7] at h; exact h) (by simp) (RV.does_pure (fun γ v L w hl h => h) (fun γ L a w hH hl hA => by have e0 := E10 γ L a w hH; exact ⟨.pointer (some ⟨tt, 0, none⟩), by simp [execOp, go_sem, e0], (r8 _ _).mpr rfl⟩))) ?_
          refine RV.AllDo.cons 9 (RV.does_guarded rfl d7 (fun v w h => by rw [r7] at h; exact h) (by simp) (RV.does_call (fun γ L a w hH hl hA => by have l0 : L 8 = true := hA ⟨8, .data⟩ (by simp) rfl; have e0 := hH.slot 8 218 d8 l0; have g0 := hH.holds 8 l0; rw [r8] at g0; rw [g0] at e0; exact ⟨21, #[.pointer (some ⟨tt, 0, none⟩)], by simp [go_sem, e0], Calls.mono (all_any tt w0.heap.size vt m B w hH.glob.t) (by rintro e w2 ⟨u, rfl, hu, hb⟩; exact ⟨_, rfl, (r9 _ _).mpr (Lies.of_row hu), fun j v _ h => K j v _ _ hb h, hH.glob.step hb⟩)⟩))) ?_
          refine RV.AllDo.cons 10 (RV.does_guarded rfl d7 (fun v w h => by rw [r7] at h; exact h) (by simp) (RV.does_pure (fun γ v L w hl h => h) (fun γ L a w hH hl hA => by have e0 := E12 γ L a w hH; exact ⟨.pointer (some ⟨qq, 0, none⟩), by simp [execOp, go_sem, e0], (r10 _ _).mpr rfl⟩))) ?_
          refine RV.AllDo.cons 11 (RV.does_guarded rfl d7 (fun v w h => by rw [r7] at h; exact h) (by simp) (RV.does_pure (fun γ v L w hl h => h) (fun γ L a w hH hl hA => by have l0 : L 10 = true := hA ⟨10, .data⟩ (by simp) rfl; have e0 := hH.slot 10 220 d10 l0; have g0 := hH.holds 10 l0; rw [r10] at g0; rw [g0] at e0; exact ⟨.pointer (some ⟨qq, 0, none⟩), by simp [execOp, go_sem, e0], (r11 _ _).mpr rfl⟩))) ?_
          refine RV.AllDo.cons 12 (RV.does_guarded rfl d7 (fun v w h => by rw [r7] at h; exact h) (by simp) (RV.does_pure (fun γ v L w hl h => h) (fun γ L a w hH hl hA => by have l0 : L 11 = true := hA ⟨11, .data⟩ (by simp) rfl; have e0 := hH.slot 11 221 d11 l0; have g0 := hH.holds 11 l0; rw [r11] at g0; rw [g0] at e0; exact ⟨.pointer (some ⟨qq, 0, none⟩), by simp [execOp, go_sem, e0], (r12 _ _).mpr rfl⟩))) ?_
          refine RV.AllDo.cons 13 (RV.does_guarded rfl d7 (fun v w h => by rw [r7] at h; exact h) (by simp) (RV.does_pure (fun γ v L w hl h => h) (fun γ L a w hH hl hA => by have l0 : L 12 = true := hA ⟨12, .data⟩ (by simp) rfl; have e0 := hH.slot 12 222 d12 l0; have g0 := hH.holds 12 l0; rw [r12] at g0; rw [g0] at e0; have z2 := hH.glob.q.c0; exact ⟨vq, by simp [execOp, go_sem, e0, z2], (r13 _ _).mpr rfl⟩))) ?_
          refine RV.AllDo.cons 14 (RV.does_guarded rfl d7 (fun v w h => by rw [r7] at h; exact h) (by simp) (RV.does_call (fun γ L a w hH hl hA => by have l0 : L 9 = true := hA ⟨9, .data⟩ (by simp) rfl; have e0 := hH.slot 9 219 d9 l0; have g0 := hH.holds 9 l0; rw [r9] at g0; have l1 : L 13 = true := hA ⟨13, .data⟩ (by simp) rfl; have e1 := hH.slot 13 223 d13 l1; have g1 := hH.holds 13 l1; rw [r13] at g1; rw [g1] at e1; exact ⟨20, #[γ 9, vq], by simp [go_sem, e0, e1], Calls.mono (same_any _ _ B B w g0 (Lies.of_row hH.glob.q.own)) (by rintro e w2 ⟨rfl, hb⟩; exact ⟨_, rfl, (r14 _ _).mpr (by rw [decide_eq_true rfl]), fun j v _ h => K j v _ _ hb h, hH.glob.step hb⟩)⟩))) ?_
          refine RV.AllDo.cons 15 (RV.does_pure (fun γ v L w hl h => h) (fun γ L a w hH hl hA => by have l0 : L 7 = true := hA ⟨7, .data⟩ (by simp) rfl; have e0 := hH.slot 7 217 d7 l0; have g0 := hH.holds 7 l0; rw [r7] at g0; rw [g0] at e0; have l1 : L 14 = true := hA ⟨14, .data⟩ (by simp) rfl; have e1 := hH.slot 14 224 d14 l1; have g1 := hH.holds 14 l1; rw [r14] at g1; rw [g1] at e1; exact ⟨.bool true, by simp [execOp, go_sem, e0, e1], (r15 _ _).mpr rfl⟩)) ?_
          refine RV.AllDo.cons 16 (RV.does_pure (fun γ v L w hl h => h) (fun γ L a w hH hl hA => by have l0 : L 15 = true := hA ⟨15, .data⟩ (by simp) rfl; have e0 := hH.slot 15 225 d15 l0; have g0 := hH.holds 15 l0; rw [r15] at g0; rw [g0] at e0; exact ⟨.bool true, by simp [execOp, go_sem, e0], (r16 _ _).mpr rfl⟩)) ?_
          exact RV.AllDo.nil
        · intro γ a5 w5 L9 hL hLo hH
          have ha := RV.held_act hH hL (by kernel_rfl) (by kernel_rfl)
          have hF := hH.glob
          have q16 : γ 16 = .bool true := hH.holds 16 (hL 16 (by decide))
          rw [ha]
          clear ha hH hL hLo
          simp only [RV.putAll, Act.put, List.setIfInBounds_toArray, List.set_cons_zero, List.set_cons_succ, Nat.zero_add, Nat.reduceAdd]
          rw [q16]
          rw [hw0] at hF
          go_wp2_with (fail)
          go_ret
          exact ⟨rfl, hF.below⟩
    · obtain ⟨w0, hw0⟩ : ∃ x, x = w := ⟨_, rfl⟩
      have HQ0 : Hid (Quad w0 wr ss tt rr qq vs vt vr vq n m A A B B) := by rw [hw0]; exact HQ.out
      clear HQ hg
      go_wp2_with (fail)
      refine RV.region_by (fun j v w => match j with | 0 => v = .pointer (some ⟨ss, 0, none⟩) | 1 => (fun v w => Lies w v A) v w | 2 => v = .pointer (some ⟨rr, 0, none⟩) | 3 => v = .pointer (some ⟨rr, 0, none⟩) | 4 => v = .pointer (some ⟨rr, 0, none⟩) | 5 => v = vr | 6 => v = .bool true | 7 => v = .bool true | 8 => v = .pointer (some ⟨tt, 0, none⟩) | 9 => (fun v w => Lies w v B) v w | 10 => v = .pointer (some ⟨qq, 0, none⟩) | 11 => v = .pointer (some ⟨qq, 0, none⟩) | 12 => v = .pointer (some ⟨qq, 0, none⟩) | 13 => v = vq | 14 => v = .bool true | 15 => v = .bool true | 16 => v = .bool true | _ => True) (fun γ L W => Quad w0 W ss tt rr qq vs vt vr vq n m A A B B) (by kernel_rfl) (by kernel_rfl) (by kernel_rfl) (by kernel_rfl) ?_ ?_ ?_
      · exact HQ0.out.step (Below.refl _ _).drew
      · generalize hD : dstOf _ = D
        generalize hWA : waitsFor _ = WA
        generalize hZ : Act.mk _ _ = Z
        obtain ⟨R, hR⟩ : ∃ R : Nat → Value → World → Prop, R = (fun j v w => match j with | 0 => v = .pointer (some ⟨ss, 0, none⟩) | 1 => (fun v w => Lies w v A) v w | 2 => v = .pointer (some ⟨rr, 0, none⟩) | 3 => v = .pointer (some ⟨rr, 0, none⟩) | 4 => v = .pointer (some ⟨rr, 0, none⟩) | 5 => v = vr | 6 => v = .bool true | 7 => v = .bool true | 8 => v = .pointer (some ⟨tt, 0, none⟩) | 9 => (fun v w => Lies w v B) v w | 10 => v = .pointer (some ⟨qq, 0, none⟩) | 11 => v = .pointer (some ⟨qq, 0, none⟩) | 12 => v = .pointer (some ⟨qq, 0, none⟩) | 13 => v = vq | 14 => v = .bool true | 15 => v = .bool true | 16 => v = .bool true | _ => True) := ⟨_, rfl⟩
        rw [← hR]
        have d0 : D 0 = some 210 := by rw [← hD]; rfl
        have d1 : D 1 = some 211 := by rw [← hD]; rfl
        have d2 : D 2 = some 212 := by rw [← hD]; rfl
        have d3 : D 3 = some 213 := by rw [← hD]; rfl
        have d4 : D 4 = some 214 := by rw [← hD]; rfl
        have d5 : D 5 = some 215 := by rw [← hD]; rfl
        have d6 : D 6 = some 216 := by rw [← hD]; rfl
        have d7 : D 7 = some 217 := by rw [← hD]; rfl
        have d8 : D 8 = some 218 := by rw [← hD]; rfl
        have d9 : D 9 = some 219 := by rw [← hD]; rfl
        have d10 : D 10 = some 220 := by rw [← hD]; rfl
        have d11 : D 11 = some 221 := by rw [← hD]; rfl
        have d12 : D 12 = some 222 := by rw [← hD]; rfl
        have d13 : D 13 = some 223 := by rw [← hD]; rfl
        have d14 : D 14 = some 224 := by rw [← hD]; rfl
        have d15 : D 15 = some 225 := by rw [← hD]; rfl
        have d16 : D 16 = some 4 := by rw [← hD]; rfl
        have r0 : ∀ v w, R 0 v w = (v = .pointer (some ⟨ss, 0, none⟩)) := fun v w => by rw [hR]; rfl
        have r1 : ∀ v w, R 1 v w = ((fun v w => Lies w v A) v w) := fun v w => by rw [hR]; rfl
        have r2 : ∀ v w, R 2 v w = (v = .pointer (some ⟨rr, 0, none⟩)) := fun v w => by rw [hR]; rfl
        have r3 : ∀ v w, R 3 v w = (v = .pointer (some ⟨rr, 0, none⟩)) := fun v w => by rw [hR]; rfl
        have r4 : ∀ v w, R 4 v w = (v = .pointer (some ⟨rr, 0, none⟩)) := fun v w => by rw [hR]; rfl
        have r5 : ∀ v w, R 5 v w = (v = vr) := fun v w => by rw [hR]; rfl
        have r6 : ∀ v w, R 6 v w = (v = .bool true) := fun v w => by rw [hR]; rfl
        have r7 : ∀ v w, R 7 v w = (v = .bool true) := fun v w => by rw [hR]; rfl
        have r8 : ∀ v w, R 8 v w = (v = .pointer (some ⟨tt, 0, none⟩)) := fun v w => by rw [hR]; rfl
        have r9 : ∀ v w, R 9 v w = ((fun v w => Lies w v B) v w) := fun v w => by rw [hR]; rfl
        have r10 : ∀ v w, R 10 v w = (v = .pointer (some ⟨qq, 0, none⟩)) := fun v w => by rw [hR]; rfl
        have r11 : ∀ v w, R 11 v w = (v = .pointer (some ⟨qq, 0, none⟩)) := fun v w => by rw [hR]; rfl
        have r12 : ∀ v w, R 12 v w = (v = .pointer (some ⟨qq, 0, none⟩)) := fun v w => by rw [hR]; rfl
        have r13 : ∀ v w, R 13 v w = (v = vq) := fun v w => by rw [hR]; rfl
        have r14 : ∀ v w, R 14 v w = (v = .bool true) := fun v w => by rw [hR]; rfl
        have r15 : ∀ v w, R 15 v w = (v = .bool true) := fun v w => by rw [hR]; rfl
        have r16 : ∀ v w, R 16 v w = (v = .bool true) := fun v w => by rw [hR]; rfl
        have E6 : ∀ (γ : Nat → Value) (L : Nat → Bool) (a : Act) (w : World), RV.Held D WA R (fun γ L W => Quad w0 W ss tt rr qq vs vt vr vq n m A A B B) Z γ L a w → a.tmps[6]? = some (.pointer (some ⟨ss, 0, none⟩)) := fun γ L a w hH => (hH.rest 6 (by rw [← hD]; exact RV.dst_free (by kernel_rfl))).trans (by rw [← hZ]; rfl)
        have E8 : ∀ (γ : Nat → Value) (L : Nat → Bool) (a : Act) (w : World), RV.Held D WA R (fun γ L W => Quad w0 W ss tt rr qq vs vt vr vq n m A A B B) Z γ L a w → a.tmps[8]? = some (.pointer (some ⟨rr, 0, none⟩)) := fun γ L a w hH => (hH.rest 8 (by rw [← hD]; exact RV.dst_free (by kernel_rfl))).trans (by rw [← hZ]; rfl)
        have E10 : ∀ (γ : Nat → Value) (L : Nat → Bool) (a : Act) (w : World), RV.Held D WA R (fun γ L W => Quad w0 W ss tt rr qq vs vt vr vq n m A A B B) Z γ L a w → a.tmps[10]? = some (.pointer (some ⟨tt, 0, none⟩)) := fun γ L a w hH => (hH.rest 10 (by rw [← hD]; exact RV.dst_free (by kernel_rfl))).trans (by rw [← hZ]; rfl)
        have E12 : ∀ (γ : Nat → Value) (L : Nat → Bool) (a : Act) (w : World), RV.Held D WA R (fun γ L W => Quad w0 W ss tt rr qq vs vt vr vq n m A A B B) Z γ L a w → a.tmps[12]? = some (.pointer (some ⟨qq, 0, none⟩)) := fun γ L a w hH => (hH.rest 12 (by rw [← hD]; exact RV.dst_free (by kernel_rfl))).trans (by rw [← hZ]; rfl)
        have K : ∀ j v w w', Below w.heap.size w w' → R j v w → R j v w' := by
          rw [hR]
          intro j v w w' hb h
          revert h
          dsimp only
          split
          all_goals first | exact id | exact fun h => Lies.below h hb
        clear hD hWA hZ hR
        refine RV.AllDo.cons 0 (RV.does_pure (fun γ v L w hl h => h) (fun γ L a w hH hl hA => by have e0 := E6 γ L a w hH; exact ⟨.pointer (some ⟨ss, 0, none⟩), by simp [execOp, go_sem, e0], (r0 _ _).mpr rfl⟩)) ?_
        refine RV.AllDo.cons 1 (RV.does_call (fun γ L a w hH hl hA => by have l0 : L 0 = true := hA ⟨0, .data⟩ (by simp) rfl; have e0 := hH.slot 0 210 d0 l0; have g0 := hH.holds 0 l0; rw [r0] at g0; rw [g0] at e0; exact ⟨21, #[.pointer (some ⟨ss, 0, none⟩)], by simp [go_sem, e0], Calls.mono (all_any ss w0.heap.size vs n A w hH.glob.s) (by rintro e w2 ⟨u, rfl, hu, hb⟩; exact ⟨_, rfl, (r1 _ _).mpr (Lies.of_row hu), fun j v _ h => K j v _ _ hb h, hH.glob.step hb⟩)⟩)) ?_
        refine RV.AllDo.cons 2 (RV.does_pure (fun γ v L w hl h => h) (fun γ L a w hH hl hA => by have e0 := E8 γ L a w hH; exact ⟨.pointer (some ⟨rr, 0, none⟩), by simp [execOp, go_sem, e0], (r2 _ _).mpr rfl⟩)) ?_
        refine RV.AllDo.cons 3 (RV.does_pure (fun γ v L w hl h => h) (fun γ L a w hH hl hA => by have l0 : L 2 = true := hA ⟨2, .data⟩ (by simp) rfl; have e0 := hH.slot 2 212 d2 l0; have g0 := hH.holds 2 l0; rw [r2] at g0; rw [g0] at e0; exact ⟨.pointer (some ⟨rr, 0, none⟩), by simp [execOp, go_sem, e0], (r3 _ _).mpr rfl⟩)) ?_
        refine RV.AllDo.cons 4 (RV.does_pure (fun γ v L w hl h => h) (fun γ L a w hH hl hA => by have l0 : L 3 = true := hA ⟨3, .data⟩ (by simp) rfl; have e0 := hH.slot 3 213 d3 l0; have g0 := hH.holds 3 l0; rw [r3] at g0; rw [g0] at e0; exact ⟨.pointer (some ⟨rr, 0, none⟩), by simp [execOp, go_sem, e0], (r4 _ _).mpr rfl⟩)) ?_
        refine RV.AllDo.cons 5 (RV.does_pure (fun γ v L w hl h => h) (fun γ L a w hH hl hA => by have l0 : L 4 = true := hA ⟨4, .data⟩ (by simp) rfl; have e0 := hH.slot 4 214 d4 l0; have g0 := hH.holds 4 l0; rw [r4] at g0; rw [g0] at e0; have z2 := hH.glob.r.c0; exact ⟨vr, by simp [execOp, go_sem, e0, z2], (r5 _ _).mpr rfl⟩)) ?_
        refine RV.AllDo.cons 6 (RV.does_call (fun γ L a w hH hl hA => by have l0 : L 1 = true := hA ⟨1, .data⟩ (by simp) rfl; have e0 := hH.slot 1 211 d1 l0; have g0 := hH.holds 1 l0; rw [r1] at g0; have l1 : L 5 = true := hA ⟨5, .data⟩ (by simp) rfl; have e1 := hH.slot 5 215 d5 l1; have g1 := hH.holds 5 l1; rw [r5] at g1; rw [g1] at e1; exact ⟨20, #[γ 1, vr], by simp [go_sem, e0, e1], Calls.mono (same_any _ _ A A w g0 (Lies.of_row hH.glob.r.own)) (by rintro e w2 ⟨rfl, hb⟩; exact ⟨_, rfl, (r6 _ _).mpr (by rw [decide_eq_true rfl]), fun j v _ h => K j v _ _ hb h, hH.glob.step hb⟩)⟩)) ?_
        refine RV.AllDo.cons 7 (RV.does_pure (fun γ v L w hl h => h) (fun γ L a w hH hl hA => by have l0 : L 6 = true := hA ⟨6, .data⟩ (by simp) rfl; have e0 := hH.slot 6 216 d6 l0; have g0 := hH.holds 6 l0; rw [r6] at g0; rw [g0] at e0; exact ⟨.bool true, by simp [execOp, go_sem, e0], (r7 _ _).mpr rfl⟩)) ?_
        refine RV.AllDo.cons 8 (RV.does_guarded rfl d7 (fun v w h => by rw [r7] at h; exact h) (by simp) (RV.does_pure (fun γ v L w hl h => h) (fun γ L a w hH hl hA => by have e0 := E10 γ L a w hH; exact ⟨.pointer (some ⟨tt, 0, none⟩), by simp [execOp, go_sem, e0], (r8 _ _).mpr rfl⟩))) ?_
        refine RV.AllDo.cons 9 (RV.does_guarded rfl d7 (fun v w h => by rw [r7] at h; exact h) (by simp) (RV.does_call (fun γ L a w hH hl hA => by have l0 : L 8 = true := hA ⟨8, .data⟩ (by simp) rfl; have e0 := hH.slot 8 218 d8 l0; have g0 := hH.holds 8 l0; rw [r8] at g0; rw [g0] at e0; exact ⟨21, #[.pointer (some ⟨tt, 0, none⟩)], by simp [go_sem, e0], Calls.mono (all_any tt w0.heap.size vt m B w hH.glob.t) (by rintro e w2 ⟨u, rfl, hu, hb⟩; exact ⟨_, rfl, (r9 _ _).mpr (Lies.of_row hu), fun j v _ h => K j v _ _ hb h, hH.glob.step hb⟩)⟩))) ?_
        refine RV.AllDo.cons 10 (RV.does_guarded rfl d7 (fun v w h => by rw [r7] at h; exact h) (by simp) (RV.does_pure (fun γ v L w hl h => h) (fun γ L a w hH hl hA => by have e0 := E12 γ L a w hH; exact ⟨.pointer (some ⟨qq, 0, none⟩), by simp [execOp, go_sem, e0], (r10 _ _).mpr rfl⟩))) ?_
        refine RV.AllDo.cons 11 (RV.does_guarded rfl d7 (fun v w h => by rw [r7] at h; exact h) (by simp) (RV.does_pure (fun γ v L w hl h => h) (fun γ L a w hH hl hA => by have l0 : L 10 = true := hA ⟨10, .data⟩ (by simp) rfl; have e0 := hH.slot 10 220 d10 l0; have g0 := hH.holds 10 l0; rw [r10] at g0; rw [g0] at e0; exact ⟨.pointer (some ⟨qq, 0, none⟩), by simp [execOp, go_sem, e0], (r11 _ _).mpr rfl⟩))) ?_
        refine RV.AllDo.cons 12 (RV.does_guarded rfl d7 (fun v w h => by rw [r7] at h; exact h) (by simp) (RV.does_pure (fun γ v L w hl h => h) (fun γ L a w hH hl hA => by have l0 : L 11 = true := hA ⟨11, .data⟩ (by simp) rfl; have e0 := hH.slot 11 221 d11 l0; have g0 := hH.holds 11 l0; rw [r11] at g0; rw [g0] at e0; exact ⟨.pointer (some ⟨qq, 0, none⟩), by simp [execOp, go_sem, e0], (r12 _ _).mpr rfl⟩))) ?_
        refine RV.AllDo.cons 13 (RV.does_guarded rfl d7 (fun v w h => by rw [r7] at h; exact h) (by simp) (RV.does_pure (fun γ v L w hl h => h) (fun γ L a w hH hl hA => by have l0 : L 12 = true := hA ⟨12, .data⟩ (by simp) rfl; have e0 := hH.slot 12 222 d12 l0; have g0 := hH.holds 12 l0; rw [r12] at g0; rw [g0] at e0; have z2 := hH.glob.q.c0; exact ⟨vq, by simp [execOp, go_sem, e0, z2], (r13 _ _).mpr rfl⟩))) ?_
        refine RV.AllDo.cons 14 (RV.does_guarded rfl d7 (fun v w h => by rw [r7] at h; exact h) (by simp) (RV.does_call (fun γ L a w hH hl hA => by have l0 : L 9 = true := hA ⟨9, .data⟩ (by simp) rfl; have e0 := hH.slot 9 219 d9 l0; have g0 := hH.holds 9 l0; rw [r9] at g0; have l1 : L 13 = true := hA ⟨13, .data⟩ (by simp) rfl; have e1 := hH.slot 13 223 d13 l1; have g1 := hH.holds 13 l1; rw [r13] at g1; rw [g1] at e1; exact ⟨20, #[γ 9, vq], by simp [go_sem, e0, e1], Calls.mono (same_any _ _ B B w g0 (Lies.of_row hH.glob.q.own)) (by rintro e w2 ⟨rfl, hb⟩; exact ⟨_, rfl, (r14 _ _).mpr (by rw [decide_eq_true rfl]), fun j v _ h => K j v _ _ hb h, hH.glob.step hb⟩)⟩))) ?_
        refine RV.AllDo.cons 15 (RV.does_pure (fun γ v L w hl h => h) (fun γ L a w hH hl hA => by have l0 : L 7 = true := hA ⟨7, .data⟩ (by simp) rfl; have e0 := hH.slot 7 217 d7 l0; have g0 := hH.holds 7 l0; rw [r7] at g0; rw [g0] at e0; have l1 : L 14 = true := hA ⟨14, .data⟩ (by simp) rfl; have e1 := hH.slot 14 224 d14 l1; have g1 := hH.holds 14 l1; rw [r14] at g1; rw [g1] at e1; exact ⟨.bool true, by simp [execOp, go_sem, e0, e1], (r15 _ _).mpr rfl⟩)) ?_
        refine RV.AllDo.cons 16 (RV.does_pure (fun γ v L w hl h => h) (fun γ L a w hH hl hA => by have l0 : L 15 = true := hA ⟨15, .data⟩ (by simp) rfl; have e0 := hH.slot 15 225 d15 l0; have g0 := hH.holds 15 l0; rw [r15] at g0; rw [g0] at e0; exact ⟨.bool true, by simp [execOp, go_sem, e0], (r16 _ _).mpr rfl⟩)) ?_
        exact RV.AllDo.nil
      · intro γ a5 w5 L9 hL hLo hH
        have ha := RV.held_act hH hL (by kernel_rfl) (by kernel_rfl)
        have hF := hH.glob
        have q16 : γ 16 = .bool true := hH.holds 16 (hL 16 (by decide))
        rw [ha]
        clear ha hH hL hLo
        simp only [RV.putAll, Act.put, List.setIfInBounds_toArray, List.set_cons_zero, List.set_cons_succ, Nat.zero_add, Nat.reduceAdd]
        rw [q16]
        rw [hw0] at hF
        go_wp2_with (fail)
        go_ret
        exact ⟨rfl, hF.below⟩

/-- What the walk is told of a slice of steps that came in. -/
theorem steps_of {H : Type} {enc : TypeId × Value → H} {W : World} {base : Nat} {spare : Nat → Bool} {held : Bool} {a : Option Addr} {len cap fuel : Nat} {x : DataW H × List MemPlace}
    (h : DataW.trod enc Try.prog W base spare held fuel 22 [.slice a len cap] = some x) : len ≤ 9223372036854775807 ∧ ∃ (sw sn sx : Nat → Int) (sb : Nat → Bool),
      (len = 0 ∨ ∃ b off, a = some ⟨b, off, none⟩ ∧ ∀ i, i < len → W.cell? ⟨b, off + i * 4, none⟩ = some (.int .i64 (sw i)) ∧ W.cell? ⟨b, off + i * 4 + 1, none⟩ = some (.int .i64 (sn i)) ∧ W.cell? ⟨b, off + i * 4 + 2, none⟩ = some (.int .i64 (sx i)) ∧ W.cell? ⟨b, off + i * 4 + 3, none⟩ = some (.bool (sb i))) ∧
      ∀ i, i < len → (-9223372036854775808 ≤ sw i ∧ sw i ≤ 9223372036854775807) ∧ (-9223372036854775808 ≤ sn i ∧ sn i ≤ 9223372036854775807) ∧ (-9223372036854775808 ≤ sx i ∧ sx i ≤ 9223372036854775807) := by
  rcases Deep.open_slice Try.underlying22 h with ⟨hcs, _⟩ | ⟨y, l, c, m, n, D, Pl, hcs, _, hl, hm, hmm, _, hx⟩
  · simp at hcs
    obtain ⟨rfl, rfl, rfl⟩ := hcs
    exact ⟨by omega, fun _ => 0, fun _ => 0, fun _ => 0, fun _ => false, Or.inl rfl, fun i hi => absurd hi (by omega)⟩
  · simp at hcs
    obtain ⟨rfl, rfl, rfl⟩ := hcs
    unfold maxLen at hm
    refine ⟨by omega, ?_⟩
    have hlm : len ≤ m := by rw [hmm]; split <;> omega
    have hc4 : Try.prog.cellsOf 32 = 4 := by kernel_rfl
    have hc1 : Try.prog.cellsOf 3 = 1 := by kernel_rfl
    have hc0 : Try.prog.cellsOf 4 = 1 := by kernel_rfl
    have each : ∀ i, i < len → ∃ (p q r : Int) (t : Bool), W.cell? ((y.add (i * 4)).add 0) = some (.int .i64 p) ∧ W.cell? ((y.add (i * 4)).add 1) = some (.int .i64 q) ∧ W.cell? ((y.add (i * 4)).add 2) = some (.int .i64 r) ∧ W.cell? ((y.add (i * 4)).add 3) = some (.bool t) ∧ (Lit.int .i64 p).wf = true ∧ (Lit.int .i64 q).wf = true ∧ (Lit.int .i64 r).wf = true := by
      intro i hi
      obtain ⟨cs', hcells, ht⟩ := hx i (by omega)
      rw [hc4] at hcells
      obtain ⟨_, hlen, hcell⟩ := World.cells?_some hcells
      obtain ⟨xs, k, _, _, _, hxl, hel⟩ := DataW.trod_struct Try.underlying32 ht
      have get : ∀ (v : Value) (j : Nat), ((cs'.drop j).take 1) = [v] → cs'[j]? = some v := fun v j h => by
        have h2 : ((cs'.drop j).take 1)[0]? = some v := by rw [h]; rfl
        simpa [List.getElem?_take, List.getElem?_drop] using h2
      have some_of : ∀ j, j < 4 → ∃ z, xs[j]? = some z := fun j hj => ⟨_, List.getElem?_eq_getElem (by rw [hxl]; exact hj)⟩
      have e0 := hel 0 _ rfl
      have e1 := hel 1 _ rfl
      have e2 := hel 2 _ rfl
      have e3 := hel 3 _ rfl
      obtain ⟨z0, hz0⟩ := some_of 0 (by omega)
      obtain ⟨z1, hz1⟩ := some_of 1 (by omega)
      obtain ⟨z2, hz2⟩ := some_of 2 (by omega)
      obtain ⟨z3, hz3⟩ := some_of 3 (by omega)
      rw [hz0] at e0
      rw [hz1] at e1
      rw [hz2] at e2
      rw [hz3] at e3
      obtain ⟨p, hp, _, wp⟩ := DataW.trod_int Try.underlying3 e0
      obtain ⟨q, hq, _, wq⟩ := DataW.trod_int Try.underlying3 e1
      obtain ⟨r, hr, _, wr⟩ := DataW.trod_int Try.underlying3 e2
      obtain ⟨t, ht3, _⟩ := DataW.trod_bool Try.underlying4 e3
      have hp2 : (cs'.drop 0).take (Try.prog.cellsOf 3) = [.int .i64 p] := hp
      have hq2 : (cs'.drop 1).take (Try.prog.cellsOf 3) = [.int .i64 q] := hq
      have hr2 : (cs'.drop 2).take (Try.prog.cellsOf 3) = [.int .i64 r] := hr
      have ht4 : (cs'.drop 3).take (Try.prog.cellsOf 4) = [.bool t] := ht3
      rw [hc1] at hp2 hq2 hr2
      rw [hc0] at ht4
      exact ⟨p, q, r, t, (hcell 0 (by omega)).trans (get _ 0 hp2), (hcell 1 (by omega)).trans (get _ 1 hq2), (hcell 2 (by omega)).trans (get _ 2 hr2), (hcell 3 (by omega)).trans (get _ 3 ht4), wp, wq, wr⟩
    have ch : ∃ (sw sn sx : Nat → Int) (sb : Nat → Bool), ∀ i, i < len → W.cell? ((y.add (i * 4)).add 0) = some (.int .i64 (sw i)) ∧ W.cell? ((y.add (i * 4)).add 1) = some (.int .i64 (sn i)) ∧ W.cell? ((y.add (i * 4)).add 2) = some (.int .i64 (sx i)) ∧ W.cell? ((y.add (i * 4)).add 3) = some (.bool (sb i)) ∧ (Lit.int .i64 (sw i)).wf = true ∧ (Lit.int .i64 (sn i)).wf = true ∧ (Lit.int .i64 (sx i)).wf = true := by
      refine ⟨fun i => if h : i < len then (each i h).choose else 0, fun i => if h : i < len then (each i h).choose_spec.choose else 0, fun i => if h : i < len then (each i h).choose_spec.choose_spec.choose else 0, fun i => if h : i < len then (each i h).choose_spec.choose_spec.choose_spec.choose else false, fun i hi => ?_⟩
      simp only [dif_pos hi]
      exact (each i hi).choose_spec.choose_spec.choose_spec.choose_spec
    obtain ⟨sw, sn, sx, sb, hall⟩ := ch
    refine ⟨sw, sn, sx, sb, ?_, fun i hi => ⟨?_, ?_, ?_⟩⟩
    · by_cases h0 : len = 0
      · exact Or.inl h0
      · right
        obtain ⟨b, off, spot⟩ := y
        have c0 := (hall 0 (by omega)).1
        have hs : spot = none := by simpa [Addr.add] using World.cell?_spot c0
        subst hs
        have ad : ∀ i j, ((⟨b, off, none⟩ : Addr).add (i * 4)).add j = ⟨b, off + i * 4 + j, none⟩ := fun i j => by
          unfold Addr.add
          split <;> split <;> simp_all
        refine ⟨b, off, rfl, fun i hi => ?_⟩
        obtain ⟨h0, h1, h2, h3, _⟩ := hall i hi
        rw [ad] at h0 h1 h2 h3
        exact ⟨h0, h1, h2, h3⟩
    · have := bounds_i64 (hall i hi).2.2.2.2.1
      omega
    · have := bounds_i64 (hall i hi).2.2.2.2.2.1
      omega
    · have := bounds_i64 (hall i hi).2.2.2.2.2.2
      omega

/-! ### The row's step, after the guide's template -/
set_option maxRecDepth 100000 in
theorem lifted (os : Os) (started : os.Started) (H : Type) (enc : TypeId × Value → H) :
    ReturnsInHanded {} Try.checked os 3 .any (Rows.pairsPlaySpec.pre6 enc Try.prog Try.f3 Rows.pairsPlayRow.domain false) (Rows.pairsPlaySpec.post enc Try.prog Try.f3 false true false false) := by
  refine returnsInHanded_of_change (C := Try.checked) own started (by kernel_rfl) Try.func3
    (ChangeSpec.witness6 (enc := enc) (C := Try.checked) false ⟨#[], #[.int .i64 0, .slice none 0 0], []⟩ 8 (by kernel_rfl) (by kernel_rfl) (by kernel_rfl) (by kernel_rfl)) ?_
  intro W base args ds gs before hval0 hW hcnd _
  have hval : ∀ (j : Nat) t v, Try.f3.params[j]? = some t → args[j]? = some v → Value.okWide Try.prog W .any base t v := hval0
  have hW' := hW
  obtain ⟨p, q, hA0, hV, rfl, hfz, hnd⟩ := hW
  have hA : DataW.TrodAll enc Try.prog W 0 (fun _ => true) true Try.f3.params.toList args.toList ds p := hA0
  rw [Try.params3] at hA hval
  obtain ⟨v0, vs0, d0, ds0, p0, q0, hargs, rfl, rfl, h0, r0⟩ := trodAll_cons hA
  obtain ⟨v1, vs1, d1, ds1, p1, q1, rfl, rfl, rfl, h1, r1⟩ := trodAll_cons r0
  obtain ⟨rfl, rfl, rfl⟩ := trodAll_nil r1
  obtain rfl : args = #[v0, v1] := by cases args; simp_all
  obtain ⟨rfl, rfl⟩ := trodVars_none hV
  obtain ⟨a0, rfl, rfl, rfl, w0⟩ := open_int Try.underlying3 (hval 0 3 v0 rfl rfl) h0
  obtain ⟨a1, len1, cap1, rfl⟩ := okWide_slice Try.underlying22 (hval 1 22 v1 rfl rfl)
  have k1 := h1
  have lt1 : ∀ x ∈ p1, x.block < W.heap.size := by obtain ⟨m, hm⟩ := k1; exact DataW.trod_lt m _ _ _ hm
  obtain ⟨fuel, hf⟩ := h1
  obtain ⟨hl1, sw, sn, sx, sb, hs, hw⟩ := steps_of (enc := enc) (by simpa [Value.cells] using hf)
  have hb0 := bounds_i64 w0
  clear hA0 hval0
  refine (walk a1 len1 cap1 sw sn sx sb a0 W hl1 hs hw (by omega) (by omega)).mono fun e W' ⟨he, bel⟩ => ?_
  subst he
  exact ⟨_, rfl, _, _, _, [], _, [], hW', trodAll_mk1 (shut_bool Try.underlying4 _), (trodAll_cons_mk (shut_int Try.underlying3 w0) (trodAll_cons_mk (Below.trod laidOut (by kernel_rfl) (of_decide_eq_true (by kernel_rfl)) k1 bel lt1) trodAll_mk0)), rfl, bel.frame _, fun h => by cases h⟩

theorem over : Rows.pairsPlayRow.holds Try.pinned (OpenSpec.ofChange Rows.pairsPlaySpec) :=
  OpenClaim.holds_of_wide 3 Try.f3 rfl rfl rfl rfl rfl rfl rfl ⟨rfl, rfl, rfl, rfl, rfl⟩ rfl rfl rfl rfl rfl (by kernel_rfl) Try.func3 (by kernel_rfl)
    (of_decide_eq_true (by kernel_rfl)) (by unfold Func.isWrapper; first | (rw [if_pos (by decide +kernel)]; kernel_rfl) | (rw [if_neg (by decide +kernel)]; exact ⟨rfl, rfl⟩))
    (fun os started H enc _ => lifted os started H enc)

end pairsPlay

theorem pairsPlay_holds : Rows.PairsPlaySaid := pairsPlay.over
#print axioms pairsPlay_holds
end Go.Proofs.Ytdfgimfihejjhaa
