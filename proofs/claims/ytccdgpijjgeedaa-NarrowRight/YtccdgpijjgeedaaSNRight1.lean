/- Package shape's small functions of points. -/
import Derived.Test.YtccdgpijjgeedaaSNRight0
import Derived.OneCell
import Derived.WalkMore
import Derived.Lib.BufferMore
import Derived.RangeFuncNested
import Derived.RangeFuncBound
import Derived.RangeFuncCalls
import Derived.RangeFuncLeaves
import Derived.RangeFuncBox
import Derived.Shelf.Abstract
import Derived.WalkKit
import Derived.OwnWalkIn
import Derived.TacticsInMore
import Derived.LoopNIn
import Derived.LoopIn
import Derived.LoopTactic
import Derived.ProofKit
import Derived.Handy
import Derived.Test.YtccdgpijjgeedaaProg
import Derived.Laws.MathBits
import Derived.Laws.Externs
import Derived.Laws.BitsAllLaws
import Derived.WalkLawsBesides
import Derived.Deep.RegionWith
set_option linter.unusedVariables false
namespace Go.Proofs.Ytccdgpijjgeedaa
section
open Go.RowKit Go.Shelf
theorem prod_in {x y A B : Int} (hx : -A <= x /\ x <= A) (hy : -B <= y /\ y <= B) (h : A * B <= 1152921504606846976) : -1152921504606846976 <= x * y /\ x * y <= 1152921504606846976 := by
 have := mul_in hx hy
 omega
set_option maxHeartbeats 1000000 in
theorem divided_any (p : Pt) (n : Int) (w : World) (hp : p.inB 1152921504606846976 = true) (hn : 0 < n) (hn' : n <= 1152921504606846976):
  Calls Try.prog 97 #[p.v, .int .i64 n] w fun e W => e = .returned (p.by n).v /\ Below w.heap.size w W := by
 obtain ⟨x, y, z⟩ := p
 rw [Pt.inB_iff] at hp
 unfold Pt.v Pt.by
 dsimp only at *
 go_enter Try.func97, Try.ntmps97
 go_wp2
 go_region
 go_wp2
 exact bodyPost_ret (v := .agg #[.int .i64 (x.tdiv n), .int .i64 (y.tdiv n), .int .i64 (z.tdiv n)]) (by simp [results, Try.results97, go_sem]) rfl ⟨rfl, (((Below.refl _ w).alloc (Nat.le_refl _) _).alloc (by simp) _).drew⟩
set_option maxHeartbeats 1000000 in
theorem within_any (p : Pt) (m : Int) (w : World) (hm : 0 <= m) (hm' : m <= 1152921504606846976) :
  Calls Try.prog 95 #[p.v, .int .i64 m] w fun e W => e = .returned (.bool (p.inB m)) /\ Below w.heap.size w W := by
 obtain ⟨x, y, z⟩ := p
 have HE : Hid (∀ b : Bool, (b = true ↔ (-m <= x /\ x <= m) /\ (-m <= y /\ y <= m) /\ (-m <= z /\ z <= m)) -> Pt.inB ⟨x, y, z⟩ m = b) := fun b h => by
  rw [Bool.eq_iff_iff, h, Pt.inB_iff]
 unfold Pt.v
 go_enter Try.func95, Try.ntmps95
 go_wp2
 all_goals
  go_ret
  exact ⟨congrArg (fun b => Ending.returned (.bool b)) (HE.out _ ⟨fun h => by first | (cases h; done) | omega | (have h' := of_decide_eq_true h; omega), fun h => by first | rfl | (exfalso; omega) | exact decide_eq_true (by omega)⟩).symm, n_after w _⟩
theorem gcd_step {x y : Int} (h : y ≠ 0) : Nat.gcd y.natAbs (x.tmod y).natAbs = Nat.gcd x.natAbs y.natAbs := by
 rw [Int.natAbs_tmod, Nat.gcd_comm x.natAbs, Nat.gcd_rec y.natAbs x.natAbs, Nat.gcd_comm]
theorem tmod_lt {x y : Int} (h : y ≠ 0) : (x.tmod y).natAbs < y.natAbs := by
 rw [Int.natAbs_tmod]; exact Nat.mod_lt _ (by omega)
set_option maxHeartbeats 1000000 in
theorem gcd_any (a b : Int) (w : World) (ha : -1152921504606846976 <= a /\ a <= 1152921504606846976) (hb : -1152921504606846976 <= b /\ b <= 1152921504606846976) :
  Calls Try.prog 106 #[.int .i64 a, .int .i64 b] w fun e W => e = .returned (.int .i64 (Nat.gcd a.natAbs b.natAbs : Nat)) /\ Below w.heap.size w W := by
 go_enter Try.func106, Try.ntmps106
 go_wp2
 go_loopw [0, 1] (fun s t wr => ∃ x y : Int, s = .int .i64 x /\ t = .int .i64 y /\ (-1152921504606846976 <= x /\ x <= 1152921504606846976) /\ (-1152921504606846976 <= y /\ y <= 1152921504606846976) /\ Hid (Nat.gcd x.natAbs y.natAbs = Nat.gcd a.natAbs b.natAbs) /\ Hid (Below w.heap.size w wr)) (fun _ t _ => (intOf t).natAbs)
 case atStart => exact ⟨a, b, rfl, rfl, ha, hb, rfl, Below.refl _ _⟩
 case round =>
  obtain ⟨x, y, rfl, rfl, hx, hy, HG, HB⟩ := hrel
  by_cases h0 : y = 0
  ·subst h0
   have HE : Hid (((Nat.gcd a.natAbs b.natAbs : Nat) : Int) = if x < -x then -x else x) := by
    show _ = _
    rw [<- HG.out]
    simp only [Int.natAbs_zero, Nat.gcd_zero_right]
    split <;> omega
   clear HG
   rcases Int.lt_trichotomy x 0 with h | h | h
   ·go_wp2
    go_ret
    refine ⟨?_, HB.out⟩
    rw [HE.out]
    exact congrArg (fun n => Ending.returned (.int .i64 n)) (by rw [if_pos (by omega)])
   ·subst h
    go_wp2
    go_ret
    exact ⟨by rw [HE.out]; rfl, HB.out⟩
   ·go_wp2
    go_ret
    refine ⟨?_, HB.out⟩
    rw [HE.out]
    exact congrArg (fun n => Ending.returned (.int .i64 n)) (by rw [if_neg (by omega)])
  ·have HS : Hid _ := gcd_step (x := x) h0
   have hlt := tmod_lt (x := x) h0
   go_wp2
   go_region
   go_wp2
   go_roundw
   case rel => exact ⟨y, x.tmod y, rfl, rfl, hy, by omega, HS.out.trans HG.out, HB.out.drew⟩
   case measure => exact hlt
end
section
open Go.RowKit Go.Shelf
theorem gcd_le {a b B : Nat} (ha : a <= B) (hb : b <= B) : Nat.gcd a b <= B := by
 by_cases h : a = 0
 ·subst h; rw [Nat.gcd_zero_left]; exact hb
 ·exact Nat.le_trans (Nat.le_of_dvd (by omega) (Nat.gcd_dvd_left a b)) ha
set_option maxHeartbeats 1000000 in
set_option maxRecDepth 100000 in
theorem lowest_any (p : Pt) (w0 : World) (hp : p.inB 4398046511104 = true) :
  Calls Try.prog 96 #[p.v] w0 fun e W => e = .returned p.low.v /\ Below w0.heap.size w0 W := by
 have hq := hp
 rw [Pt.inB_iff] at hq
 have b1 : Nat.gcd p.x.natAbs p.y.natAbs <= 4398046511104 := gcd_le (by omega) (by omega)
 have b2 : p.g <= 4398046511104 := gcd_le b1 (by omega)
 have G1 : Hid _ := fun w' => gcd_any p.x p.y w' (by omega) (by omega)
 have G2 : Hid (∀ w', Calls Try.prog 106 #[.int .i64 (Nat.gcd p.x.natAbs p.y.natAbs : Nat), .int .i64 p.z] w' fun e W => e = .returned (.int .i64 (p.g : Nat)) /\ Below w'.heap.size w' W) := fun w' => gcd_any (Nat.gcd p.x.natAbs p.y.natAbs : Nat) p.z w' (by omega) (by omega)
 have HD : Hid (p.g ≠ 0 -> ∀ w', Calls Try.prog 97 #[p.v, .int .i64 (p.g : Nat)] w' fun e W => e = .returned (p.by p.g).v /\ Below w'.heap.size w' W) := fun h w' => divided_any p p.g w' (inB_mono hp (by decide)) (by omega) (by omega)
 have HL : Hid (p.low = if p.g = 0 then p else p.by p.g) := rfl
 generalize p.low = r at *
 generalize Nat.gcd p.x.natAbs p.y.natAbs = m1 at *
 generalize p.g = m2 at *
 obtain ⟨x, y, z⟩ := p
 clear hp hq
 unfold Pt.v at *
 dsimp only at *
 go_enter Try.func96, Try.ntmps96
 go_wp2_with (fail)
 obtain ⟨V, hV⟩ : ∃ V : World, V = ((w0.alloc (.cells #[.int .i64 x, .int .i64 y, .int .i64 z] 26)).alloc (.cells #[.int .i64 0, .int .i64 0, .int .i64 0] 26)) := ⟨_, rfl⟩
 have hBV : Below w0.heap.size w0 V := by rw [hV]; exact (((Below.refl _ w0).alloc (by simp; try omega) _).alloc (by simp; try omega) _)
 have V0_0 : V.cell? ⟨w0.heap.size, 0, none⟩ = some (.int .i64 x) := by rw [hV]; simp [go_sem]
 have V0_1 : V.cell? ⟨w0.heap.size, 1, none⟩ = some (.int .i64 y) := by rw [hV]; simp [go_sem]
 have V0_2 : V.cell? ⟨w0.heap.size, 2, none⟩ = some (.int .i64 z) := by rw [hV]; simp [go_sem]
 have V1_0 : V.cell? ⟨w0.heap.size + 1, 0, none⟩ = some (.int .i64 0) := by rw [hV]; simp [go_sem]
 have V1_1 : V.cell? ⟨w0.heap.size + 1, 1, none⟩ = some (.int .i64 0) := by rw [hV]; simp [go_sem]
 have V1_2 : V.cell? ⟨w0.heap.size + 1, 2, none⟩ = some (.int .i64 0) := by rw [hV]; simp [go_sem]
 have Vf1_0 : V.frozen? ⟨w0.heap.size + 1, 0, none⟩ = false := by rw [hV]; simp [go_sem]
 have Vf1_1 : V.frozen? ⟨w0.heap.size + 1, 1, none⟩ = false := by rw [hV]; simp [go_sem]
 have Vf1_2 : V.frozen? ⟨w0.heap.size + 1, 2, none⟩ = false := by rw [hV]; simp [go_sem]
 rw [<- hV]
 clear hV
 refine RV.region_by (fun j v w => match j with | 0 => v = .pointer (some ⟨w0.heap.size, 0, none⟩) | 1 => v = .int .i64 (x) | 2 => v = .pointer (some ⟨w0.heap.size, 1, none⟩) | 3 => v = .int .i64 (y) | 4 => v = .int .i64 ((m1 : Nat)) | 5 => v = .pointer (some ⟨w0.heap.size, 2, none⟩) | 6 => v = .int .i64 (z) | 7 => v = .int .i64 ((m2 : Nat)) | 8 => v = .int .i64 ((m2 : Nat)) | _ => True) (fun γ L w9 => Below V.heap.size V w9) (by kernel_rfl) (by kernel_rfl) (by kernel_rfl) (by kernel_rfl) ?_ ?_ ?_
 ·exact (Below.refl _ V).drew
 ·generalize hD : dstOf _ = D
  generalize hWA : waitsFor _ = WA
  generalize hZ : Act.mk _ _ = Z
  refine RV.AllDo.name ?_
  intro R hR
  have d0 : D 0 = some 4 := by rw [<- hD]; rfl
  have d1 : D 1 = some 5 := by rw [<- hD]; rfl
  have d2 : D 2 = some 6 := by rw [<- hD]; rfl
  have d3 : D 3 = some 7 := by rw [<- hD]; rfl
  have d4 : D 4 = some 8 := by rw [<- hD]; rfl
  have d5 : D 5 = some 9 := by rw [<- hD]; rfl
  have d6 : D 6 = some 10 := by rw [<- hD]; rfl
  have d7 : D 7 = some 11 := by rw [<- hD]; rfl
  have d8 : D 8 = some 3 := by rw [<- hD]; rfl
  have r0 : ∀ v w, R 0 v w = (v = .pointer (some ⟨w0.heap.size, 0, none⟩)) := fun v w => by rw [hR]; rfl
  have r1 : ∀ v w, R 1 v w = (v = .int .i64 (x)) := fun v w => by rw [hR]; rfl
  have r2 : ∀ v w, R 2 v w = (v = .pointer (some ⟨w0.heap.size, 1, none⟩)) := fun v w => by rw [hR]; rfl
  have r3 : ∀ v w, R 3 v w = (v = .int .i64 (y)) := fun v w => by rw [hR]; rfl
  have r4 : ∀ v w, R 4 v w = (v = .int .i64 ((m1 : Nat))) := fun v w => by rw [hR]; rfl
  have r5 : ∀ v w, R 5 v w = (v = .pointer (some ⟨w0.heap.size, 2, none⟩)) := fun v w => by rw [hR]; rfl
  have r6 : ∀ v w, R 6 v w = (v = .int .i64 (z)) := fun v w => by rw [hR]; rfl
  have r7 : ∀ v w, R 7 v w = (v = .int .i64 ((m2 : Nat))) := fun v w => by rw [hR]; rfl
  have r8 : ∀ v w, R 8 v w = (v = .int .i64 ((m2 : Nat))) := fun v w => by rw [hR]; rfl
  have F1_ : ∀ j, D j ≠ some 1 := by rw [<- hD]; exact RV.dst_free (by kernel_rfl)
  have Z1_ : Z.tmps[1]? = some (.pointer (some ⟨w0.heap.size, 0, none⟩)) := by rw [<- hZ]; rfl
  have K : ∀ j v w w', R j v w -> R j v w' := by rw [hR]; intro j v w w' h; exact h
  clear hD hWA hZ hR
  refine RV.cc 0 (RV.dp (fun γ v L w hl h => h) (fun γ L a w hH hl hA => by have e0 := ((hH.rest 1 F1_).trans Z1_); exact ⟨.pointer (some ⟨w0.heap.size, 0, none⟩), by simp [execOp, go_sem, e0], (r0 _ _).mpr rfl⟩)) ?_
  refine RV.cc 1 (RV.dp (fun γ v L w hl h => h) (fun γ L a w hH hl hA => by have e0 := hH.got d0 r0 (hA ⟨0, .data⟩ (by simp) rfl); have hB9 := hH.glob; have z0 := c_after hB9 V0_0; exact ⟨.int .i64 (x), by simp [execOp, go_sem, e0, z0], (r1 _ _).mpr rfl⟩)) ?_
  refine RV.cc 2 (RV.dp (fun γ v L w hl h => h) (fun γ L a w hH hl hA => by have e0 := ((hH.rest 1 F1_).trans Z1_); exact ⟨.pointer (some ⟨w0.heap.size, 1, none⟩), by simp [execOp, go_sem, e0], (r2 _ _).mpr rfl⟩)) ?_
  refine RV.cc 3 (RV.dp (fun γ v L w hl h => h) (fun γ L a w hH hl hA => by have e0 := hH.got d2 r2 (hA ⟨2, .data⟩ (by simp) rfl); have hB9 := hH.glob; have z0 := c_after hB9 V0_1; exact ⟨.int .i64 (y), by simp [execOp, go_sem, e0, z0], (r3 _ _).mpr rfl⟩)) ?_
  refine RV.cc 4 (RV.dc (fun γ L a w hH hl hA => by have e0 := hH.got d1 r1 (hA ⟨1, .data⟩ (by simp) rfl); have e1 := hH.got d3 r3 (hA ⟨3, .data⟩ (by simp) rfl); have hB9 := hH.glob; exact ⟨106, #[.int .i64 (x), .int .i64 (y)], by simp [go_sem, e0, e1], Calls.mono (G1.out w) (by rintro e w2 ⟨rfl, hb⟩; exact ⟨_, rfl, (r4 _ _).mpr rfl, fun j v _ h => K j v _ _ h, hB9.trans (hb.mono hB9.size)⟩)⟩)) ?_
  refine RV.cc 5 (RV.dp (fun γ v L w hl h => h) (fun γ L a w hH hl hA => by have e0 := ((hH.rest 1 F1_).trans Z1_); exact ⟨.pointer (some ⟨w0.heap.size, 2, none⟩), by simp [execOp, go_sem, e0], (r5 _ _).mpr rfl⟩)) ?_
  refine RV.cc 6 (RV.dp (fun γ v L w hl h => h) (fun γ L a w hH hl hA => by have e0 := hH.got d5 r5 (hA ⟨5, .data⟩ (by simp) rfl); have hB9 := hH.glob; have z0 := c_after hB9 V0_2; exact ⟨.int .i64 (z), by simp [execOp, go_sem, e0, z0], (r6 _ _).mpr rfl⟩)) ?_
  refine RV.cc 7 (RV.dc (fun γ L a w hH hl hA => by have e0 := hH.got d4 r4 (hA ⟨4, .data⟩ (by simp) rfl); have e1 := hH.got d6 r6 (hA ⟨6, .data⟩ (by simp) rfl); have hB9 := hH.glob; exact ⟨106, #[.int .i64 ((m1 : Nat)), .int .i64 (z)], by simp [go_sem, e0, e1], Calls.mono (G2.out w) (by rintro e w2 ⟨rfl, hb⟩; exact ⟨_, rfl, (r7 _ _).mpr rfl, fun j v _ h => K j v _ _ h, hB9.trans (hb.mono hB9.size)⟩)⟩)) ?_
  refine RV.cc 8 (RV.dp (fun γ v L w hl h => h) (fun γ L a w hH hl hA => by have e0 := hH.got d7 r7 (hA ⟨7, .data⟩ (by simp) rfl); exact ⟨.int .i64 ((m2 : Nat)), by simp [execOp, go_sem, e0], (r8 _ _).mpr rfl⟩)) ?_
  exact RV.AllDo.nil
 ·intro γ a5 w5 L9 hL hLo hH
  have ha := RV.held_act hH hL (by kernel_rfl) (by kernel_rfl)
  have hb8 := hH.glob
  have y0 : γ 0 = .pointer (some ⟨w0.heap.size, 0, none⟩) := hH.holds 0 (hL 0 (by decide))
  have y1 : γ 1 = .int .i64 (x) := hH.holds 1 (hL 1 (by decide))
  have y2 : γ 2 = .pointer (some ⟨w0.heap.size, 1, none⟩) := hH.holds 2 (hL 2 (by decide))
  have y3 : γ 3 = .int .i64 (y) := hH.holds 3 (hL 3 (by decide))
  have y4 : γ 4 = .int .i64 ((m1 : Nat)) := hH.holds 4 (hL 4 (by decide))
  have y5 : γ 5 = .pointer (some ⟨w0.heap.size, 2, none⟩) := hH.holds 5 (hL 5 (by decide))
  have y6 : γ 6 = .int .i64 (z) := hH.holds 6 (hL 6 (by decide))
  have y7 : γ 7 = .int .i64 ((m2 : Nat)) := hH.holds 7 (hL 7 (by decide))
  have y8 : γ 8 = .int .i64 ((m2 : Nat)) := hH.holds 8 (hL 8 (by decide))
  rw [ha]
  clear ha hH hL hLo
  simp only [RV.putAll, Act.put, List.setIfInBounds_toArray, List.set_cons_zero, List.set_cons_succ, Nat.zero_add, Nat.reduceAdd, y0, y1, y2, y3, y4, y5, y6, y7, y8]
  clear y0 y1 y2 y3 y4 y5 y6 y7 y8
  have hB5 := hBV.trans (hb8.mono hBV.size)
  have p0 := c_after hb8 V0_0
  have p1 := c_after hb8 V0_1
  have p2 := c_after hb8 V0_2
  have q0 := c_after hb8 V1_0
  have q1 := c_after hb8 V1_1
  have q2 := c_after hb8 V1_2
  have k0 := f_after hb8 V1_0 Vf1_0
  have k1 := f_after hb8 V1_1 Vf1_1
  have k2 := f_after hb8 V1_2 Vf1_2
  by_cases h0 : m2 = 0
  ·have h0' : (m2 : Int) = 0 := by omega
   have e : r = ⟨x, y, z⟩ := by rw [HL.out, if_pos h0]
   subst e
   clear HL HD G1 G2 h0
   go_wp2_with (fail)
   refine bodyPost_ret (v := .agg #[.int .i64 x, .int .i64 y, .int .i64 z]) (by simp [results, Try.results96, go_sem, q0, q1, q2]) rfl ⟨rfl, ?_⟩
   exact (((hB5.setCell (by simp) _).setCell (by simp) _).setCell (by simp) _)
  ·have h0' : ¬ (m2 : Int) = 0 := by omega
   have e : r = Pt.by ⟨x, y, z⟩ m2 := by rw [HL.out, if_neg h0]
   have HD : Hid _ := HD.out h0
   rw [<- e] at HD
   obtain ⟨rx, ry, rz⟩ := r
   clear e HL G1 G2
   dsimp only at *
   go_wp2_with (fail)
   refine Calls.mono (HD.out _) ?_
   clear HD
   rintro e W9 ⟨rfl, hb9⟩
   have q0 := c_after hb9 q0
   have q1 := c_after hb9 q1
   have q2 := c_after hb9 q2
   have k0 := f_after hb9 (c_after hb8 V1_0) k0
   have k1 := f_after hb9 (c_after hb8 V1_1) k1
   have k2 := f_after hb9 (c_after hb8 V1_2) k2
   go_wp2
   refine bodyPost_ret (v := .agg #[.int .i64 rx, .int .i64 ry, .int .i64 rz]) (by simp [results, Try.results96, go_sem, q0, q1, q2]) rfl ⟨rfl, ?_⟩
   exact ((((b_step hB5 hb9).setCell (by simp) _).setCell (by simp) _).setCell (by simp) _)
theorem halveF_step (k : Nat) (q : Pt) (h : q.inB 1048576 = false) (hb : q.inB (2 ^ k : Nat) = true) : ∃ j, k = j + 1 /\ halveF k q = halveF j (q.by 2) /\ (q.by 2).inB (2 ^ j : Nat) = true := by
 cases k with
 | zero => rw [inB_mono hb (by decide)] at h; cases h
 | succ j =>
  refine ⟨j, rfl, by rw [halveF, if_neg (by rw [h]; decide)], half_in ?_⟩
  rw [Nat.pow_succ, Nat.mul_comm, Int.natCast_mul] at hb
  exact hb
theorem cast_pow (k : Nat) (h : k <= 43) : (((2 ^ k : Nat) : Nat) : Int) <= 8796093022208 := by
 have := Nat.pow_le_pow_right (n := 2) (by decide) h
 have e : 2 ^ 43 = 8796093022208 := by decide
 omega
set_option maxHeartbeats 1000000 in
set_option maxRecDepth 100000 in
theorem short_any (p : Pt) (w0 : World) :
  Calls Try.prog 75 #[p.v] w0 fun e W => e = .returned p.short.v /\ Below w0.heap.size w0 W := by
 have HW : Hid (∀ w', Calls Try.prog 95 #[p.v, .int .i64 4398046511104] w' fun e W => e = .returned (.bool (p.inB 4398046511104)) /\ Below w'.heap.size w' W) := fun w' => within_any p _ w' (by decide) (by decide)
 have HX : Hid (∀ q : Pt, ∀ w', Calls Try.prog 95 #[q.v, .int .i64 1048576] w' fun e W => e = .returned (.bool (q.inB 1048576)) /\ Below w'.heap.size w' W) := fun q w' => within_any q _ w' (by decide) (by decide)
 have HLO : Hid (∀ q : Pt, q.inB 4398046511104 = true -> ∀ w', Calls Try.prog 96 #[q.v] w' fun e W => e = .returned q.low.v /\ Below w'.heap.size w' W) := fun q hq w' => lowest_any q w' hq
 have HD : Hid (∀ q : Pt, q.inB 1152921504606846976 = true -> ∀ w', Calls Try.prog 97 #[q.v, .int .i64 2] w' fun e W => e = .returned (q.by 2).v /\ Below w'.heap.size w' W) := fun q hq w' => divided_any q 2 w' hq (by decide) (by decide)
 have bx0 : Hid (Box3 ((w0.alloc (.cells #[.int .i64 p.x, .int .i64 p.y, .int .i64 p.z] 26)).alloc (.cells #[.int .i64 0, .int .i64 0, .int .i64 0] 26)) w0.heap.size p) := (Box3.new w0 p.x p.y p.z _).step (n_after _ _)
 have bx1 : Hid (Box3 ((w0.alloc (.cells #[.int .i64 p.x, .int .i64 p.y, .int .i64 p.z] 26)).alloc (.cells #[.int .i64 0, .int .i64 0, .int .i64 0] 26)) (w0.heap.size + 1) Pt.O) := by have := Box3.new (w0.alloc (.cells #[.int .i64 p.x, .int .i64 p.y, .int .i64 p.z] 26)) 0 0 0 26; rwa [World.size_alloc] at this
 have hB0 : Hid (Below w0.heap.size w0 ((w0.alloc (.cells #[.int .i64 p.x, .int .i64 p.y, .int .i64 p.z] 26)).alloc (.cells #[.int .i64 0, .int .i64 0, .int .i64 0] 26))) := b_step (n_after w0 _) (n_after _ _)
 obtain ⟨r, hr⟩ : ∃ r, p.short = r := ⟨_, rfl⟩
 rw [hr]
 have HR : Hid _ := hr
 clear hr
 unfold Pt.v at *
 go_enter Try.func75, Try.ntmps75
 go_wp2_with (fail)
 refine Calls.mono (HW.out _) ?_
 clear HW
 rintro e V ⟨rfl, hb⟩
 have b0 : Hid _ := bx0.out.step hb
 have b1 : Hid _ := bx1.out.step hb
 have hB : Hid _ := b_step hB0.out hb
 clear bx0 bx1 hB0 hb
 cases hin : p.inB 4398046511104 with
 | false =>
  have e : r = Pt.O := by rw [<- HR.out]; unfold Pt.short; rw [if_neg (by rw [hin]; decide)]
  clear HR
  subst e
  obtain ⟨c0, c1, c2, f0, f1, f2⟩ := b1.out
  simp only [Pt.O] at c0 c1 c2
  go_wp2_with (fail)
  refine bodyPost_ret (v := .agg #[.int .i64 0, .int .i64 0, .int .i64 0]) (by simp [results, Try.results75, go_sem, c0, c1, c2]) rfl ⟨rfl, ?_⟩
  exact set3_below hB.out (by omega) 0 0 0
 | true =>
  have hlow := Pt.low_in hin
  have HR : Hid (r = (halveF 43 p.low).low) := by show _ = _; rw [<- HR.out]; unfold Pt.short; rw [if_pos hin]; rfl
  have HL1 : Hid _ := HLO.out p hin
  obtain ⟨c0, c1, c2, f0, f1, f2⟩ := b0.out
  go_wp2_with (fail)
  refine Calls.mono (HL1.out _) ?_
  clear HL1
  rintro e V2 ⟨rfl, hb⟩
  have b0 : Hid (Box3 (set3 V2 w0.heap.size p.low.x p.low.y p.low.z) w0.heap.size p.low) := (b0.out.step hb).set _ _ _
  have b1 : Hid (Box3 (set3 V2 w0.heap.size p.low.x p.low.y p.low.z) (w0.heap.size + 1) Pt.O) := (b1.out.step hb).other (by omega) _ _ _
  have hB : Hid (Below w0.heap.size w0 (set3 V2 w0.heap.size p.low.x p.low.y p.low.z)) := set3_below (b_step hB.out hb) (Nat.le_refl _) _ _ _
  have d0 := c_after hb c0
  have d1 := c_after hb c1
  have d2 := c_after hb c2
  have f0 := f_after hb c0 f0
  have f1 := f_after hb c1 f1
  have f2 := f_after hb c2 f2
  unfold set3 at b0 b1 hB
  clear hb c0 c1 c2
  go_wp2_with (fail)
  clear d0 d1 d2 f0 f1 f2
  have hL2 : p.low.inB (2 ^ 43 : Nat) = true := inB_mono hlow (by decide)
  go_loopg [] 43 (fun g wr => ∃ q : Pt, Hid (Box3 wr w0.heap.size q) /\ Hid (Box3 wr (w0.heap.size + 1) Pt.O) /\ Hid (Below w0.heap.size w0 wr) /\ g <= 43 /\ Hid (halveF g q = halveF 43 p.low) /\ Hid (q.inB (2 ^ g : Nat) = true))
  case atStart => exact ⟨p.low, b0, b1, hB, Nat.le_refl _, rfl, hL2⟩
  case round =>
   clear b0 b1 hB hL2
   obtain ⟨q, b0, b1, hB, hg, HF, HI⟩ := hrel
   have hG : Hid _ := hg
   clear hg
   obtain ⟨c0, c1, c2, f0, f1, f2⟩ := b0.out
   go_wp2_with (fail)
   refine Calls.mono (HX.out q _) ?_
   rintro e V3 ⟨rfl, hb⟩
   clear c0 c1 c2 f0 f1 f2
   have b0 : Hid _ := b0.out.step hb
   have b1 : Hid _ := b1.out.step hb
   have hB : Hid _ := b_step hB.out hb
   clear hb
   cases hq : q.inB 1048576 with
   | false =>
    obtain ⟨j, hj, ej, hin2⟩ := halveF_step _ q hq HI.out
    have HJ : Hid _ := And.intro hj (And.intro ej hin2)
    have hq2 : q.inB 1152921504606846976 = true := inB_mono HI.out (by have := cast_pow _ hG.out; omega)
    have HD2 : Hid _ := HD.out q hq2
    clear hj ej hin2 hq2
    obtain ⟨c0, c1, c2, f0, f1, f2⟩ := b0.out
    go_wp2_with (fail)
    refine Calls.mono (HD2.out _) ?_
    clear HD2
    rintro e V4 ⟨rfl, hb⟩
    have b0 : Hid (Box3 (set3 V4 w0.heap.size (q.by 2).x (q.by 2).y (q.by 2).z) w0.heap.size (q.by 2)) := (b0.out.step hb).set _ _ _
    have b1 : Hid (Box3 (set3 V4 w0.heap.size (q.by 2).x (q.by 2).y (q.by 2).z) (w0.heap.size + 1) Pt.O) := (b1.out.step hb).other (by omega) _ _ _
    have hB : Hid (Below w0.heap.size w0 (set3 V4 w0.heap.size (q.by 2).x (q.by 2).y (q.by 2).z)) := set3_below (b_step hB.out hb) (Nat.le_refl _) _ _ _
    have d0 := c_after hb c0
    have d1 := c_after hb c1
    have d2 := c_after hb c2
    have f0 := f_after hb c0 f0
    have f1 := f_after hb c1 f1
    have f2 := f_after hb c2 f2
    unfold set3 at b0 b1 hB
    clear hb c0 c1 c2
    go_wp2_with (fail)
    go_roundg j
    case measure => have := HJ.out.1; omega
    case rel => exact ⟨q.by 2, b0, b1, hB, by have := HJ.out.1; have := hG.out; omega, HJ.out.2.1.symm.trans HF.out, HJ.out.2.2⟩
   | true =>
    have e : r = q.low := by rw [HR.out, <- HF.out, halveF_id _ _ hq]
    have HL1 : Hid _ := HLO.out q (inB_mono hq (by decide))
    rw [<- e] at HL1
    clear e HR HF HI HX HLO HD
    obtain ⟨c0, c1, c2, f0, f1, f2⟩ := b0.out
    go_wp2_with (fail)
    refine Calls.mono (HL1.out _) ?_
    clear HL1 c0 c1 c2 f0 f1 f2
    rintro e V4 ⟨rfl, hb⟩
    obtain ⟨c0, c1, c2, f0, f1, f2⟩ := b1.out.step hb
    have hB : Hid _ := b_step hB.out hb
    go_wp2_with (fail)
    refine bodyPost_ret (v := .agg #[.int .i64 r.x, .int .i64 r.y, .int .i64 r.z]) (by simp [results, Try.results75, go_sem, c0, c1, c2]) rfl ⟨rfl, ?_⟩
    exact set3_below hB.out (by omega) _ _ _
end
section
open Go.RowKit Go.Shelf
theorem pt_eq (p q : Pt) : p = q ↔ p.x = q.x /\ p.y = q.y /\ p.z = q.z := by cases p; cases q; simp
end
section
open Go.RowKit Go.Shelf
def At (W : World) (g : Nat) (M : List Pt) : Prop := ∀ i, i < M.length -> W.cell? ⟨g, i * 3, none⟩ = some (.int .i64 (pt M i).x) /\ W.cell? ⟨g, i * 3 + 1, none⟩ = some (.int .i64 (pt M i).y) /\ W.cell? ⟨g, i * 3 + 2, none⟩ = some (.int .i64 (pt M i).z)
theorem At.below {w W : World} {g : Nat} {M : List Pt} (h : At w g M) (hb : Below w.heap.size w W) : At W g M := fun i hi => ⟨c_after hb (h i hi).1, c_after hb (h i hi).2.1, c_after hb (h i hi).2.2⟩
theorem At.grown {w W : World} {g : Nat} {M : List Pt} {row : Option Nat} (h : At w g M) (hg : w.grownBy W row) (hne : row ≠ some g) : At W g M := fun i hi =>
 ⟨hg.cell (h i hi).1 (fun e => hne e.symm), hg.cell (h i hi).2.1 (fun e => hne e.symm), hg.cell (h i hi).2.2 (fun e => hne e.symm)⟩
end
section
open Go.RowKit Go.Shelf
theorem Box3.grown {w W : World} {b : Nat} {q : Pt} {row : Option Nat} (h : Box3 w b q) (hg : w.grownBy W row) (hne : row ≠ some b) : Box3 W b q := by
 have hb := hg.block b h.lt (fun e => hne e.symm)
 obtain ⟨c0, c1, c2, f0, f1, f2⟩ := h
 simp only [World.cell?, World.frozen?] at c0 c1 c2 f0 f1 f2
 rw [<- hb] at c0 c1 c2 f0 f1 f2
 exact ⟨c0, c1, c2, f0, f1, f2⟩
structure Two (w0 W : World) (va ve : Value) (A E : List Pt) (bs : List (Nat × Pt)) : Prop where
 ra : W.ownsRow w0.heap.size 26 3 va A.length (fl3 A)
 re : W.ownsRow w0.heap.size 26 3 ve E.length (fl3 E)
 apart : ∀ k, ve.ownBlock = some k -> va.ownBlock ≠ some k
 below : Below w0.heap.size w0 W
 box : ∀ x ∈ bs, Box3 W x.1 x.2 /\ va.ownBlock ≠ some x.1 /\ ve.ownBlock ≠ some x.1 /\ w0.heap.size <= x.1
theorem Two.start (w0 : World) : Two w0 w0 (.slice none 0 0) (.slice none 0 0) [] [] [] := ⟨World.ownsRow_nil _ _ _ _, World.ownsRow_nil _ _ _ _, (fun _ h => by cases h), Below.refl _ _, (fun _ h => by cases h)⟩
theorem Two.step {w0 W X : World} {va ve : Value} {A E : List Pt} {bs : List (Nat × Pt)} (h : Two w0 W va ve A E bs) (hb : Below W.heap.size W X) : Two w0 X va ve A E bs :=
 ⟨own_below h.ra hb, own_below h.re hb, h.apart, h.below.trans (hb.mono h.below.size), fun x hx => ⟨(h.box x hx).1.step hb, (h.box x hx).2⟩⟩
theorem Two.axis {w0 W X : World} {va ve va' : Value} {A E A' : List Pt} {bs : List (Nat × Pt)} (h : Two w0 W va ve A E bs) (hr : X.ownsRow w0.heap.size 26 3 va' A'.length (fl3 A')) (hg : Grew W X va va') : Two w0 X va' ve A' E bs := by
 obtain ⟨k1, k2⟩ := hg.beside h.re h.apart
 refine ⟨hr, k1, k2, hg.on h.below h.ra h.below.size, fun x hx => ?_⟩
 obtain ⟨b, b1, b2, b3⟩ := h.box x hx
 refine ⟨b.grown hg.grown b1, ?_, b2, b3⟩
 rcases hg.same with e | ⟨k, e, hk⟩
 ·rw [e]; exact b1
 ·rw [e]; intro e'; cases e'; have := b.lt; omega
theorem Two.swap {w0 W : World} {va ve : Value} {A E : List Pt} {bs : List (Nat × Pt)} (h : Two w0 W va ve A E bs) : Two w0 W ve va E A bs := ⟨h.re, h.ra, fun k e e' => h.apart k e' e, h.below, fun x hx => ⟨(h.box x hx).1, (h.box x hx).2.2.1, (h.box x hx).2.1, (h.box x hx).2.2.2⟩⟩
theorem Two.edge {w0 W X : World} {va ve ve' : Value} {A E E' : List Pt} {bs : List (Nat × Pt)} (h : Two w0 W va ve A E bs) (hr : X.ownsRow w0.heap.size 26 3 ve' E'.length (fl3 E')) (hg : Grew W X ve ve') : Two w0 X va ve' A E' bs := (h.swap.axis hr hg).swap
theorem at_new (w : World) (p q r : Pt) (t : TypeId) : At (w.alloc (.cells #[.int .i64 p.x, .int .i64 p.y, .int .i64 p.z, .int .i64 q.x, .int .i64 q.y, .int .i64 q.z, .int .i64 r.x, .int .i64 r.y, .int .i64 r.z] t)) w.heap.size [p, q, r] := by
 intro i hi
 match i, hi with
 | 0, _ => exact ⟨by simp [pt], by simp [pt], by simp [pt]⟩
 | 1, _ => exact ⟨by simp [pt], by simp [pt], by simp [pt]⟩
 | 2, _ => exact ⟨by simp [pt], by simp [pt], by simp [pt]⟩
theorem axis_len (A : List Pt) (n : Pt) : (withAxisP A n).length <= A.length + 1 := by unfold withAxisP; split <;> simp
end
section
open Go.RowKit Go.Shelf
def mayP (L : List Pt) : Bool := decide (4 <= L.length /\ L.length <= 12) && (L.all (fun p => p.inB 65536) && decide L.Nodup)
def halfOk (n : Int) : Bool := decide (1 <= n /\ n <= 65536)
end
section
open Go.RowKit Go.Shelf
structure Sh where
 kind : Int
 radius : Int
 half : Pt
 pts : List Pt
def Sh.v (s : Sh) (pv : Value) : Value := .agg #[.int .i64 s.kind, .int .i64 s.radius, .int .i64 s.half.x, .int .i64 s.half.y, .int .i64 s.half.z, pv]
def inR (n a b : Int) : Bool := decide (a <= n /\ n <= b)
def formP (s : Sh) : Bool :=
 if s.kind = 1 then inR s.radius 1 16384
 else if s.kind = 2 then inR s.radius 1 16384 && halfOk s.half.x
 else if s.kind = 3 then inR s.radius 0 16384 && (halfOk s.half.x && (halfOk s.half.y && halfOk s.half.z))
 else if s.kind = 4 then inR s.radius 0 16384 && mayP s.pts
 else false
def checkP (s : Sh) : Int := if formP s then (if s.kind = 4 /\ flatP s.pts = true then 51 else 0) else 50
theorem may_parts {L : List Pt} (h : mayP L = true) : 4 <= L.length /\ L.length <= 12 /\ (∀ p ∈ L, p.inB 65536 = true) /\ L.Nodup := by
 unfold mayP at h
 simp only [Bool.and_eq_true, decide_eq_true_eq, List.all_eq_true] at h
 exact ⟨h.1.1, h.1.2, h.2.1, h.2.2⟩
theorem form_hull {s : Sh} (h : formP s = true) (k : s.kind = 4) : mayP s.pts = true := by
 unfold formP at h
 rw [if_neg (by omega), if_neg (by omega), if_neg (by omega), if_pos k, Bool.and_eq_true] at h
 exact h.2
end
section
open Go.RowKit Go.Shelf
def cornersP (h : Pt) : List Pt := [⟨-h.x, -h.y, -h.z⟩, ⟨-h.x, -h.y, h.z⟩, ⟨-h.x, h.y, -h.z⟩, ⟨-h.x, h.y, h.z⟩, ⟨h.x, -h.y, -h.z⟩, ⟨h.x, -h.y, h.z⟩, ⟨h.x, h.y, -h.z⟩, ⟨h.x, h.y, h.z⟩]
def straightP : List Pt := [⟨1, 0, 0⟩, ⟨0, 1, 0⟩, ⟨0, 0, 1⟩]
end
section
open Go.RowKit Go.Shelf
def ptsP (s : Sh) : List Pt := if s.kind = 1 then [Pt.O] else if s.kind = 2 then [⟨-s.half.x, 0, 0⟩, ⟨s.half.x, 0, 0⟩] else if s.kind = 3 then cornersP s.half else s.pts
def axesP (s : Sh) : List Pt := if s.kind = 3 then straightP else if s.kind = 4 then (sidesP s.pts).1 else []
def edgesP (s : Sh) : List Pt := if s.kind = 2 then [⟨1, 0, 0⟩] else if s.kind = 3 then straightP else if s.kind = 4 then (sidesP s.pts).2 else []
theorem own_le {w : World} {base base' : Nat} {t : TypeId} {sz n : Nat} {u : Value} {xs : List Value} (h : w.ownsRow base t sz u n xs) (hb : base' <= base) : w.ownsRow base' t sz u n xs := Go.Joins.ownsRow_le h hb
structure Three (w0 W : World) (vp va ve : Value) (P A E : List Pt) : Prop where
 rp : W.ownsRow w0.heap.size 26 3 vp P.length (fl3 P)
 ra : W.ownsRow w0.heap.size 26 3 va A.length (fl3 A)
 re : W.ownsRow w0.heap.size 26 3 ve E.length (fl3 E)
 pa : ∀ k, vp.ownBlock = some k -> va.ownBlock ≠ some k
 pe : ∀ k, vp.ownBlock = some k -> ve.ownBlock ≠ some k
 ae : ∀ k, va.ownBlock = some k -> ve.ownBlock ≠ some k
 below : Below w0.heap.size w0 W
theorem Three.step {w0 W X : World} {vp va ve : Value} {P A E : List Pt} (h : Three w0 W vp va ve P A E) (hb : Below W.heap.size W X) : Three w0 X vp va ve P A E :=
 ⟨own_below h.rp hb, own_below h.ra hb, own_below h.re hb, h.pa, h.pe, h.ae, b_step h.below hb⟩
def set4 (W : World) (b : Nat) (v0 v1 v2 v3 : Value) : World := (((W.setCell ⟨b, 0, none⟩ v0).setCell ⟨b, 1, none⟩ v1).setCell ⟨b, 2, none⟩ v2).setCell ⟨b, 3, none⟩ v3
theorem own_set4 {W : World} {base : Nat} {t : TypeId} {sz n : Nat} {u : Value} {xs : List Value} {b : Nat} (h : W.ownsRow base t sz u n xs) (hne : u.ownBlock ≠ some b) (v0 v1 v2 v3 : Value) : (set4 W b v0 v1 v2 v3).ownsRow base t sz u n xs :=
 ownsRow_setCell_other (ownsRow_setCell_other (ownsRow_setCell_other (ownsRow_setCell_other h hne _) hne _) hne _) hne _
theorem set4_below {n : Nat} {w W : World} {b : Nat} (h : Below n w W) (hb : n <= b) (v0 v1 v2 v3 : Value) : Below n w (set4 W b v0 v1 v2 v3) := (((h.setCell hb _).setCell hb _).setCell hb _).setCell hb _
theorem Three.set {w0 W : World} {vp va ve : Value} {P A E : List Pt} {b : Nat} (h : Three w0 W vp va ve P A E) (hb : w0.heap.size <= b) (h1 : vp.ownBlock ≠ some b) (h2 : va.ownBlock ≠ some b) (h3 : ve.ownBlock ≠ some b) (v0 v1 v2 v3 : Value) : Three w0 (set4 W b v0 v1 v2 v3) vp va ve P A E :=
 ⟨own_set4 h.rp h1 _ _ _ _, own_set4 h.ra h2 _ _ _ _, own_set4 h.re h3 _ _ _ _, h.pa, h.pe, h.ae, set4_below h.below hb _ _ _ _⟩
theorem three_nil {w0 W : World} (h : Below w0.heap.size w0 W) : Three w0 W (.slice none 0 0) (.slice none 0 0) (.slice none 0 0) [] [] [] :=
 ⟨World.ownsRow_nil _ _ _ _, World.ownsRow_nil _ _ _ _, World.ownsRow_nil _ _ _ _, (fun _ h => by cases h), (fun _ h => by cases h), (fun _ h => by cases h), h⟩
def Cells (W : World) (b : Nat) (vs : List Value) : Prop := ∀ i v, vs[i]? = some v -> W.cell? ⟨b, i, none⟩ = some v /\ W.frozen? ⟨b, i, none⟩ = false
theorem Cells.step {A B : World} {b : Nat} {vs : List Value} (h : Cells A b vs) (hb : Below A.heap.size A B) : Cells B b vs := fun i v e => ⟨c_after hb (h i v e).1, f_after hb (h i v e).1 (h i v e).2⟩
theorem Cells.new (w : World) (vs : List Value) (t : TypeId) : Cells (w.alloc (.cells vs.toArray t)) w.heap.size vs := fun i v e => ⟨by simp [e], by simp [go_sem]⟩
theorem Cells.set {W : World} {b : Nat} {vs : List Value} (h : Cells W b vs) (k : Nat) (u : Value) (hk : k < vs.length) : Cells (W.setCell ⟨b, k, none⟩ u) b (vs.set k u) := by
 intro i v e
 by_cases hik : i = k
 ·subst hik
  rw [List.getElem?_set_self hk] at e
  cases e
  obtain ⟨h1, h2⟩ := h i _ (List.getElem?_eq_getElem hk)
  exact ⟨by simp [go_sem, h1], by simp [go_sem, h2]⟩
 ·rw [List.getElem?_set_ne (Ne.symm hik)] at e
  obtain ⟨h1, h2⟩ := h i v e
  exact ⟨by simp [go_sem, h1], by simp [go_sem, h2]⟩
theorem Cells.set4 {W : World} {b : Nat} {x0 x1 x2 x3 : Value} (h : Cells W b [x0, x1, x2, x3]) (v0 v1 v2 v3 : Value) : Cells (set4 W b v0 v1 v2 v3) b [v0, v1, v2, v3] := (((h.set 0 v0 (by simp)).set 1 v1 (by simp)).set 2 v2 (by simp)).set 3 v3 (by simp)
theorem own_one {w : World} {base : Nat} {p : Pt} (hb : base <= w.heap.size) : (w.alloc (.cells #[.int .i64 p.x, .int .i64 p.y, .int .i64 p.z] 26)).ownsRow base 26 3 (.slice (some ⟨w.heap.size, 0, none⟩) 1 1) [p].length (fl3 [p]) :=
 World.ownsRow_lit (e := 26) (size := 3) w #[.int .i64 p.x, .int .i64 p.y, .int .i64 p.z] 1 hb (by unfold maxLen; omega) rfl
theorem own_two {w : World} {base : Nat} {p q : Pt} (hb : base <= w.heap.size) : (w.alloc (.cells #[.int .i64 p.x, .int .i64 p.y, .int .i64 p.z, .int .i64 q.x, .int .i64 q.y, .int .i64 q.z] 26)).ownsRow base 26 3 (.slice (some ⟨w.heap.size, 0, none⟩) 2 2) [p, q].length (fl3 [p, q]) :=
 World.ownsRow_lit (e := 26) (size := 3) w #[.int .i64 p.x, .int .i64 p.y, .int .i64 p.z, .int .i64 q.x, .int .i64 q.y, .int .i64 q.z] 2 hb (by unfold maxLen; omega) rfl
theorem three_ball {w0 W : World} (h : Below w0.heap.size w0 W) (n : Nat) (hn : n = W.heap.size) : Three w0 (W.alloc (.cells #[.int .i64 0, .int .i64 0, .int .i64 0] 26)) (.slice (some ⟨n, 0, none⟩) 1 1) (.slice none 0 0) (.slice none 0 0) [Pt.O] [] [] := by
 subst hn
 exact ⟨own_one (p := Pt.O) h.size, World.ownsRow_nil _ _ _ _, World.ownsRow_nil _ _ _ _, (fun _ _ h => by cases h), (fun _ _ h => by cases h), (fun _ h => by cases h), b_step h (n_after _ _)⟩
theorem three_capsule {w0 W : World} (h : Below w0.heap.size w0 W) (x : Int) (n m : Nat) (hn : n = W.heap.size) (hm : m = W.heap.size + 1) : Three w0 ((W.alloc (.cells #[.int .i64 (-x), .int .i64 0, .int .i64 0, .int .i64 x, .int .i64 0, .int .i64 0] 26)).alloc (.cells #[.int .i64 1, .int .i64 0, .int .i64 0] 26)) (.slice (some ⟨n, 0, none⟩) 2 2) (.slice none 0 0) (.slice (some ⟨m, 0, none⟩) 1 1) [⟨-x, 0, 0⟩, ⟨x, 0, 0⟩] [] [⟨1, 0, 0⟩] := by
 subst hn hm
 have hs : w0.heap.size <= (W.alloc (.cells #[.int .i64 (-x), .int .i64 0, .int .i64 0, .int .i64 x, .int .i64 0, .int .i64 0] 26)).heap.size := by have := h.size; simp; omega
 have k2 := own_one (w := W.alloc (.cells #[.int .i64 (-x), .int .i64 0, .int .i64 0, .int .i64 x, .int .i64 0, .int .i64 0] 26)) (base := w0.heap.size) (p := ⟨1, 0, 0⟩) hs
 rw [World.size_alloc] at k2
 refine ⟨own_below (own_two (p := ⟨-x, 0, 0⟩) (q := ⟨x, 0, 0⟩) h.size) (n_after _ _), World.ownsRow_nil _ _ _ _, k2, (fun _ _ h => by cases h), (fun k h e => ?_), (fun _ h => by cases h), b_step h (b_step (n_after _ _) (n_after _ _))⟩
 simp only [Value.ownBlock, Option.some.injEq] at h e
 omega
theorem Three.put {w0 W : World} {vp va ve : Value} {P A E : List Pt} {b : Nat} (h : Three w0 W vp va ve P A E) (hb : w0.heap.size <= b) (h1 : vp.ownBlock ≠ some b) (h2 : va.ownBlock ≠ some b) (h3 : ve.ownBlock ≠ some b) (k : Nat) (v : Value) : Three w0 (W.setCell ⟨b, k, none⟩ v) vp va ve P A E :=
 ⟨ownsRow_setCell_other h.rp h1 _, ownsRow_setCell_other h.ra h2 _, ownsRow_setCell_other h.re h3 _, h.pa, h.pe, h.ae, h.below.setCell hb _⟩
end
section
open Go.RowKit Go.Shelf
def highI (a b : Int) : Int := if b > a then b else a
def Pt.plus (p q : Pt) : Pt := ⟨IntKind.i64.wrap (p.x + q.x), IntKind.i64.wrap (p.y + q.y), IntKind.i64.wrap (p.z + q.z)⟩
def Pt.greater (p q : Pt) : Pt := ⟨highI p.x q.x, highI p.y q.y, highI p.z q.z⟩
def Pt.le (p q : Pt) : Bool := decide (p.x <= q.x /\ p.y <= q.y /\ p.z <= q.z)
structure Bx where
 lo : Pt
 hi : Pt
def Bx.v (b : Bx) : Value := .agg #[.int .i64 b.lo.x, .int .i64 b.lo.y, .int .i64 b.lo.z, .int .i64 b.hi.x, .int .i64 b.hi.y, .int .i64 b.hi.z]
end
section
open Go.RowKit Go.Shelf
def Bx.grown (a : Bx) (n : Int) : Bx := ⟨a.lo.plus ⟨IntKind.i64.wrap (-n), IntKind.i64.wrap (-n), IntKind.i64.wrap (-n)⟩, a.hi.plus ⟨n, n, n⟩⟩
end
section
open Go.RowKit Go.Shelf
def Pt.win (p : Pt) (m : Int) : Bool := p.le ⟨m, m, m⟩ && Pt.le ⟨IntKind.i64.wrap (-m), IntKind.i64.wrap (-m), IntKind.i64.wrap (-m)⟩ p
end
section
open Go.RowKit Go.Shelf
theorem Cells.lt {W : World} {b : Nat} {u : Value} {vs : List Value} (h : Cells W b (u :: vs)) : b < W.heap.size := World.block_lt_of_cell? _ _ (h 0 u rfl).1
theorem Cells.apart {W : World} {b b' : Nat} {vs : List Value} (h : Cells W b vs) (hne : b ≠ b') (o : Nat) (u : Value) : Cells (W.setCell ⟨b', o, none⟩ u) b vs := fun i v e =>
 ⟨by simp [go_sem, (h i v e).1], by simp [go_sem, (h i v e).2]⟩
def coreV (pv av ev : Value) (r : Int) : Value := .agg #[pv, av, ev, .int .i64 r]
theorem Cells.grew {A B : World} {row : Option Nat} {b : Nat} {vs : List Value} (h : Cells A b vs) (hg : A.grownBy B row) (hb : ∀ r, row = some r -> r ≠ b) : Cells B b vs := fun i v e => by
 have hlt := World.block_lt_of_cell? _ _ (h i v e).1
 have hbl := hg.block b hlt (fun e => hb b e.symm rfl)
 exact ⟨(World.cell?_of_block (w := A) hbl).trans (h i v e).1, (World.frozen?_of_block (w := A) hbl).trans (h i v e).2⟩
end
section
namespace Fx
theorem div_of {n y q : Int} (hy : 0 < y) (h1 : q * y <= n) (h2 : n < (q + 1) * y) : n / y = q /\ n % y = n - q * y := by
 have e : n / y = q := by
  apply Int.le_antisymm
  ·have := (Int.ediv_lt_iff_lt_mul hy).2 h2; omega
  ·exact (Int.le_ediv_iff_mul_le hy).2 h1
 refine ⟨e, ?_⟩
 have := Int.emod_add_mul_ediv n y
 rw [e, Int.mul_comm] at this
 omega
theorem div_is (n y : Int) (hy : 0 < y) : n / y * y <= n /\ n < (n / y + 1) * y := by
 have a := Int.emod_add_mul_ediv n y
 have b := Int.emod_nonneg n (by omega : y ≠ 0)
 have c := Int.emod_lt_of_pos n hy
 rw [Int.add_mul, Int.mul_comm (n / y) y]
 omega
def fl (X c : Int) : Int := if c < 0 then (-X) / (-c) else X / c
theorem neg_div {T c : Int} (hc : 0 < c) : (-T) / c = if T % c = 0 then -(T / c) else -(T / c + 1) := by
 have a := Int.emod_add_mul_ediv T c
 have b := Int.emod_nonneg T (by omega : c ≠ 0)
 have d := Int.emod_lt_of_pos T hc
 rw [Int.mul_comm] at a
 split
 ·refine (div_of hc ?_ ?_).1
  ·rw [Int.neg_mul]; omega
  ·rw [Int.add_mul, Int.neg_mul]; omega
 ·refine (div_of hc ?_ ?_).1
  ·rw [Int.neg_mul, Int.add_mul]; omega
  ·rw [Int.neg_add, Int.neg_add_cancel_right, Int.neg_mul]; omega
def isq : Nat -> Nat
 | 0 => 0
 | n + 1 => if (isq n + 1) * (isq n + 1) <= n + 1 then isq n + 1 else isq n
theorem isq_is (n : Nat) : isq n * isq n <= n /\ n < (isq n + 1) * (isq n + 1) := by
 induction n with
 | zero => simp [isq]
 | succ n ih =>
  simp only [isq]
  split
  ·refine ⟨by assumption, ?_⟩
   have : (isq n + 1 + 1) * (isq n + 1 + 1) = (isq n + 1) * (isq n + 1) + 2 * isq n + 3 := by grind
   omega
  ·omega
theorem isq_of {X r : Int} (h0 : 0 <= r) (h1 : r * r <= X) (h2 : X < (r + 1) * (r + 1)) : r = (isq X.toNat : Int) := by
 have hX : 0 <= X := Int.le_trans (Int.mul_nonneg h0 h0) h1
 obtain ⟨x, rfl⟩ := Int.eq_ofNat_of_zero_le hX
 obtain ⟨r, rfl⟩ := Int.eq_ofNat_of_zero_le h0
 obtain ⟨a, b⟩ := isq_is x
 simp only [Int.toNat_natCast]
 have h1 : r * r <= x := by exact_mod_cast h1
 have h2 : x < (r + 1) * (r + 1) := by exact_mod_cast h2
 have c : r < isq x + 1 := by
  apply Nat.lt_of_not_le; intro h
  have := Nat.mul_le_mul h h; omega
 have d : isq x < r + 1 := by
  apply Nat.lt_of_not_le; intro h
  have := Nat.mul_le_mul h h; omega
 omega
def great (n : Int) : Bool := decide (n < -4611686018427387903) || decide (4611686018427387903 < n)
theorem great_iff (n : Int) : great n = true ↔ n < -4611686018427387903 \/ 4611686018427387903 < n := by simp [great]
theorem not_great (n : Int) : great n = false ↔ -4611686018427387903 <= n /\ n <= 4611686018427387903 := by simp [great]
def told (n : Int) : Option Int := if great n then none else some n
def add (a b : Int) : Option Int := if great a || great b then none else told (a + b)
def sub (a b : Int) : Option Int := if great a || great b then none else told (a - b)
def ratio (a b c : Int) : Option Int := if c = 0 then none else if great a || (great b || great c) then none else told (fl (a * b) c)
def root (a : Int) : Option Int := if a < 0 then none else if great a then none else told (isq (a * 4294967296).toNat)
def prods : List Int -> List Int -> Int
 | a :: l, b :: m => a * b + prods l m
 | _, _ => 0
theorem prods_step : ∀ (k : Nat) (l m : List Int), k < l.length -> k < m.length -> prods (l.take (k + 1)) (m.take (k + 1)) = prods (l.take k) (m.take k) + l.getD k 0 * m.getD k 0
 | 0, a :: l, b :: m, _, _ => by simp [prods]
 | k + 1, a :: l, b :: m, h, h' => by
  have := prods_step k l m (by simpa using h) (by simpa using h')
  simp only [List.take_succ_cons, prods, List.getD_cons_succ] at this ⊢
  rw [this]; omega
 | _, [], _, h, _ => by simp at h
 | _, _ :: _, [], _, h => by simp at h
theorem prods_bound : ∀ (l m : List Int), l.any great = false -> m.any great = false -> (prods l m).natAbs <= l.length * 21267647932558653957237540927630737409
 | [], _, _, _ => by simp [prods]
 | _ :: _, [], _, _ => by simp [prods]
 | a :: l, b :: m, h, h' => by
  simp only [List.any_cons, Bool.or_eq_false_iff] at h h'
  have := prods_bound l m h.2 h'.2
  have ha := (not_great a).1 h.1
  have hb := (not_great b).1 h'.1
  have hp : (a * b).natAbs <= 4611686018427387903 * 4611686018427387903 := by rw [Int.natAbs_mul]; exact Nat.mul_le_mul (by omega) (by omega)
  simp only [prods, List.length_cons]
  omega
theorem prods_self : ∀ (l : List Int), 0 <= prods l l
 | [] => by simp [prods]
 | a :: l => by
  have := prods_self l
  have h : 0 <= a * a := by
   rcases Int.le_total 0 a with g | g
   ·exact Int.mul_nonneg g g
   ·exact Int.mul_nonneg_of_nonpos_of_nonpos g g
  simp only [prods]; omega
theorem any_take {l : List Int} (k : Nat) (h : l.any great = false) : (l.take k).any great = false := by
 rw [List.any_eq_false] at h ⊢
 exact fun x hx => h x (List.mem_of_mem_take hx)
theorem getD_small {l : List Int} {k : Nat} (h : l.any great = false) (hk : k < l.length) : great (l.getD k 0) = false := by
 rw [List.any_eq_false] at h
 have := h _ (List.getElem_mem hk)
 simpa [List.getD_eq_getElem?_getD, List.getElem?_eq_getElem hk] using this
def dot (l m : List Int) : Option Int := if l.length ≠ m.length then none else if 8 < l.length then none else if l.any great || m.any great then none else told (prods l m / 4294967296)
def norm (l : List Int) : Option Int := if 8 < l.length then none else if l.any great then none else told (isq (prods l l).toNat)
end Fx
end
section
open Go.RowKit Fx
theorem great_step (zs : List Int) (k : Nat) (h : k < zs.length) (hn : (zs.take k).any great = false) : (zs.take (k + 1)).any great = great (zs.getD k 0) := by
 rw [List.take_succ_eq_append_getElem h, List.any_append, hn]
 simp [List.getD_eq_getElem?_getD, List.getElem?_eq_getElem h]
def mark (p : Addr) (o : Option Int) (w : World) : World := if o.isNone then w.setCell p (.bool true) else w
theorem set_after {w w1 : World} {p : Addr} {v : Value} (hb : Below w.heap.size w w1) : Below w.heap.size (w.setCell p v) (w1.setCell p v) := by
 refine ⟨hb.os, hb.tape, hb.output, by simpa [World.setCell] using hb.size, fun k hk => ?_⟩
 simp only [World.setCell, Array.getElem?_modify]
 rw [hb.block k hk]
theorem cell_after {w w1 : World} {p : Addr} {v : Value} (hb : Below w.heap.size w w1) (hc : w.cell? p = some v) : w1.cell? p = some v := (hb.cell (World.block_lt_of_cell? _ _ hc)).trans hc
theorem frozen_after {w w1 : World} {p : Addr} {v : Value} (hb : Below w.heap.size w w1) (hc : w.cell? p = some v) (hf : w.frozen? p = false) : w1.frozen? p = false := (hb.frozen (World.block_lt_of_cell? _ _ hc)).trans hf
theorem new_after (w : World) (o : Obj) : Below w.heap.size w (w.alloc o) := (Below.refl _ _).alloc (Nat.le_refl _) _
theorem mark_after {w w1 w2 : World} {p : Addr} {o : Option Int} (h1 : Below w.heap.size w w1) (h2 : Below w1.heap.size (mark p o w1) w2) : Below w.heap.size (mark p o w) w2 := by
 have hs := h1.size
 cases o with
 | none => exact (set_after h1).trans (h2.mono hs)
 | some n => exact h1.trans (h2.mono hs)
end
section
open Go.RowKit Fx
theorem below_step {w w1 w2 : World} (h1 : Below w.heap.size w w1) (h2 : Below w1.heap.size w1 w2) : Below w.heap.size w w2 := h1.trans (h2.mono h1.size)
end
section
open Go.RowKit Fx
def Step (f : Bool) (o : Option Int) (v : Int) (g : Bool) : Prop := v = o.getD 0 /\ g = (f || o.isNone)
structure After (p : Addr) (g : Bool) (W W' : World) : Prop where
 cell : W'.cell? p = some (.bool g)
 frozen : W'.frozen? p = false
 size : W.heap.size <= W'.heap.size
 other : ∀ q : Addr, q.block < W.heap.size -> q.block ≠ p.block -> W'.cell? q = W.cell? q /\ W'.frozen? q = W.frozen? q
 below : ∀ (B : Nat) (w : World), Below B w W -> B <= p.block -> B <= W.heap.size -> Below B w W'
 kept : W'.os = W.os /\ W'.tape = W.tape /\ W'.output = W.output /\ ∀ k, k < W.heap.size -> k ≠ p.block -> W'.heap[k]? = W.heap[k]?
 beside : p.block < W.heap.size -> ∀ o, o ≠ p.off -> W'.cell? ⟨p.block, o, none⟩ = W.cell? ⟨p.block, o, none⟩ /\ W'.frozen? ⟨p.block, o, none⟩ = W.frozen? ⟨p.block, o, none⟩
theorem After.cellOf {p q : Addr} {g : Bool} {W W' : World} (h : After p g W W') {v : Value} (hq : W.cell? q = some v) (hne : q.block ≠ p.block) : W'.cell? q = some v := (h.other q (World.block_lt_of_cell? _ _ hq) hne).1.trans hq
theorem After.frozenOf {p q : Addr} {g : Bool} {W W' : World} (h : After p g W W') {v : Value} (hq : W.cell? q = some v) (hf : W.frozen? q = false) (hne : q.block ≠ p.block) : W'.frozen? q = false := (h.other q (World.block_lt_of_cell? _ _ hq) hne).2.trans hf
theorem After.on {w W W' : World} {p : Addr} {g : Bool} (h : After p g W W') (hb : Below w.heap.size w W) (hp : w.heap.size <= p.block) : Below w.heap.size w W' := h.below _ _ hb hp hb.size
theorem after_of {b off : Nat} {f : Bool} {o : Option Int} {W W' : World} (hb : Below W.heap.size (mark ⟨b, off, none⟩ o W) W') (hc : W.cell? ⟨b, off, none⟩ = some (.bool f)) (hf : W.frozen? ⟨b, off, none⟩ = false) :
  After ⟨b, off, none⟩ (f || o.isNone) W W' := by
 have hlt := World.block_lt_of_cell? _ _ hc
 cases o with
 | some n =>
  have hb : Below W.heap.size W W' := hb
  refine ⟨by rw [hb.cell hlt, hc]; simp, by rw [hb.frozen hlt, hf], hb.size, fun q hq _ => ⟨hb.cell hq, hb.frozen hq⟩, fun B w h _ hB => h.trans (hb.mono hB), ⟨hb.os, hb.tape, hb.output, fun k hk _ => hb.block k hk⟩, fun hp o _ => ⟨hb.cell hp, hb.frozen hp⟩⟩
 | none =>
  have hb : Below W.heap.size (W.setCell ⟨b, off, none⟩ (.bool true)) W' := hb
  have hs := hb.size
  simp [World.setCell] at hs
  refine ⟨?_, ?_, by simpa using hs, fun q hq hne => ⟨?_, ?_⟩, fun B w h hp hB => (h.setCell hp _).trans (hb.mono hB), ⟨hb.os, hb.tape, hb.output, fun k hk hne => (hb.block k hk).trans (Below.heap_setCell _ _ _ _ hne)⟩, fun hp o ho => ⟨?_, ?_⟩⟩
  ·rw [hb.cell hlt]; simp [go_sem, hc]
  ·rw [hb.frozen hlt]; simp [go_sem, hf]
  ·rw [hb.cell hq]; exact World.cell?_of_block (w := W) (Below.heap_setCell _ _ _ _ hne)
  ·rw [hb.frozen hq]; exact World.frozen?_of_block (w := W) (Below.heap_setCell _ _ _ _ hne)
  ·exact (hb.cell (p := ⟨b, o, none⟩) hlt).trans (World.cell?_setCell_other _ _ _ _ (fun e => ho (Addr.mk.inj e).2.1.symm))
  ·exact (hb.frozen (p := ⟨b, o, none⟩) hlt).trans (by simp [go_sem])
end
section
open Go.RowKit Fx
def NRow (w : World) (a : Option Addr) (zs : List Int) : Prop := zs.length = 0 \/ ∃ b off, a = some ⟨b, off, none⟩ /\ ∀ k, k < zs.length -> w.cell? ⟨b, off + k, none⟩ = some (.int .i64 (zs.getD k 0))
end
section
open Go.RowKit Fx
structure Leaves (p : Addr) (W W' : World) : Prop where
 size : W.heap.size <= W'.heap.size
 other : ∀ q : Addr, q.block < W.heap.size -> q.block ≠ p.block -> W'.cell? q = W.cell? q /\ W'.frozen? q = W.frozen? q
 below : ∀ (B : Nat) (w : World), Below B w W -> B <= p.block -> B <= W.heap.size -> Below B w W'
 kept : W'.os = W.os /\ W'.tape = W.tape /\ W'.output = W.output /\ ∀ k, k < W.heap.size -> k ≠ p.block -> W'.heap[k]? = W.heap[k]?
 beside : p.block < W.heap.size -> ∀ o, o ≠ p.off -> W'.cell? ⟨p.block, o, none⟩ = W.cell? ⟨p.block, o, none⟩ /\ W'.frozen? ⟨p.block, o, none⟩ = W.frozen? ⟨p.block, o, none⟩
theorem Leaves.refl (p : Addr) (W : World) : Leaves p W W := ⟨Nat.le_refl _, fun _ _ _ => ⟨rfl, rfl⟩, fun _ _ h _ _ => h, ⟨rfl, rfl, rfl, fun _ _ _ => rfl⟩, fun _ _ _ => ⟨rfl, rfl⟩⟩
theorem Leaves.step {p : Addr} {W w w' : World} (h : Leaves p W w) (k : Below W.heap.size w w') : Leaves p W w' := by
 refine ⟨Nat.le_trans h.size k.size, fun q hq hne => ?_, fun B w0 hb h1 h2 => (h.below B w0 hb h1 h2).trans (k.mono h2), ⟨k.os.trans h.kept.1, k.tape.trans h.kept.2.1, k.output.trans h.kept.2.2.1, fun i hi hne => (k.block i hi).trans (h.kept.2.2.2 i hi hne)⟩, fun hp o ho => ?_⟩
 ·exact ⟨(k.cell hq).trans (h.other q hq hne).1, (k.frozen hq).trans (h.other q hq hne).2⟩
 ·exact ⟨(k.cell (p := ⟨p.block, o, none⟩) hp).trans (h.beside hp o ho).1, (k.frozen (p := ⟨p.block, o, none⟩) hp).trans (h.beside hp o ho).2⟩
theorem Leaves.alloc {p : Addr} {W w : World} (h : Leaves p W w) (o : Obj) : Leaves p W (w.alloc o) := h.step ((new_after w o).mono h.size)
theorem Leaves.set {p : Addr} {W w : World} (h : Leaves p W w) {a : Addr} (ha : W.heap.size <= a.block) (v : Value) : Leaves p W (w.setCell a v) := h.step ((Below.refl _ _).setCell ha v)
theorem Leaves.after {p q : Addr} {g : Bool} {W w w' : World} (h : Leaves p W w) (a : After q g w w') (hq : W.heap.size <= q.block) : Leaves p W w' :=
 h.step (a.below _ _ (Below.refl _ _) hq h.size)
theorem Leaves.same {p : Addr} {g : Bool} {W w w' : World} (h : Leaves p W w) (a : After p g w w') : Leaves p W w' := by
 refine ⟨Nat.le_trans h.size a.size, fun x hx hne => ?_, fun B w0 hb h1 h2 => a.below B w0 (h.below B w0 hb h1 h2) h1 (Nat.le_trans h2 h.size), ⟨a.kept.1.trans h.kept.1, a.kept.2.1.trans h.kept.2.1, a.kept.2.2.1.trans h.kept.2.2.1, fun i hi hne => (a.kept.2.2.2 i (Nat.lt_of_lt_of_le hi h.size) hne).trans (h.kept.2.2.2 i hi hne)⟩, fun hp o ho => ?_⟩
 ·have hlt : x.block < w.heap.size := Nat.lt_of_lt_of_le hx h.size
  have := a.other x hlt hne
  exact ⟨this.1.trans (h.other x hx hne).1, this.2.trans (h.other x hx hne).2⟩
 ·have := a.beside (Nat.lt_of_lt_of_le hp h.size) o ho
  exact ⟨this.1.trans (h.beside hp o ho).1, this.2.trans (h.beside hp o ho).2⟩
theorem Leaves.done {p : Addr} {g : Bool} {W W' : World} (h : Leaves p W W') (hc : W'.cell? p = some (.bool g)) (hf : W'.frozen? p = false) : After p g W W' := ⟨hc, hf, h.size, h.other, h.below, h.kept, h.beside⟩
structure V3 where
 x : Int
 y : Int
 z : Int
structure V4 where
 w : Int
 x : Int
 y : Int
 z : Int
@[reducible] def V3.val (v : V3) : Value := .agg #[.int .i64 v.x, .int .i64 v.y, .int .i64 v.z]
@[reducible] def V4.val (v : V4) : Value := .agg #[.int .i64 v.w, .int .i64 v.x, .int .i64 v.y, .int .i64 v.z]
def V3.zero : V3 := ⟨0, 0, 0⟩
def V4.zero : V4 := ⟨0, 0, 0, 0⟩
end
section
open Go.RowKit Fx
inductive Shape where
 | is (v : Value)
 | ptr
 | row (n : Nat)
structure Made where
 i : Nat
 s : Nat
 cs : List Value
structure Plan where
 W : World
 N : Nat
 p : Addr
 fl : Addr
 g0 : Bool
 bad : Bool
 f : Bool
 calls : List (Nat × Bool)
 tl : Nat
 st : Nat
 r : Nat
 res : List Value
 fixed : List (Addr × Value)
 made : List Made
structure Plan.Good (π : Plan) : Prop where
 wn : π.W.heap.size <= π.N
 rr : π.res = [] \/ (π.W.heap.size <= π.r /\ π.r < π.N /\ π.fl.block ≠ π.r /\ π.p.block ≠ π.r /\ ∀ c ∈ π.fixed, c.1.block ≠ π.r)
 fl0 : π.fl = π.p \/ π.W.heap.size <= π.fl.block
 fl1 : π.fl.block < π.N
 p0 : π.fl = π.p \/ π.p.block < π.W.heap.size
 fx : ∀ c ∈ π.fixed, c.1.block < π.N /\ c.1.block ≠ π.fl.block /\ c.1.block ≠ π.p.block
 badOf : π.bad = true -> π.g0 = true \/ ∃ c ∈ π.calls, c.2 = true
 callBad : ∀ c ∈ π.calls, c.2 = true -> π.bad = true
def upd (γ : Nat -> Nat) (i b : Nat) : Nat -> Nat := fun j => if j = i then b else γ j
section
variable {P : Program} {Q : Exit -> Act -> World -> Prop} {D : Nat -> Option Tmp} {A : Nat -> Nat -> Prop} {sh : Nat -> Shape} {π : Plan} {a₀ : Act}
end
end
section
open Go.RowKit Fx
theorem Leaves.own {p : Addr} {W w : World} (h : Leaves p W w) (v : Value) : Leaves p W (w.setCell p v) := by
 refine ⟨by simpa [World.setCell] using h.size, fun q hq hne => ?_, fun B w' hb h1 h2 => (h.below B w' hb h1 h2).setCell h1 v, ⟨h.kept.1, h.kept.2.1, h.kept.2.2.1, fun i hi hne => (Below.heap_setCell _ _ _ _ hne).trans (h.kept.2.2.2 i hi hne)⟩, fun hp o ho => ⟨(World.cell?_setCell_other _ _ _ _ (fun e => ho (by cases p; exact ((Addr.mk.inj e).2.1).symm))).trans (h.beside hp o ho).1, by rw [show (w.setCell p v).frozen? ⟨p.block, o, none⟩ = w.frozen? ⟨p.block, o, none⟩ by simp [go_sem]]; exact (h.beside hp o ho).2⟩⟩
 exact ⟨(World.cell?_of_block (w := w) (Below.heap_setCell _ _ _ _ hne)).trans (h.other q hq hne).1, (World.frozen?_of_block (w := w) (Below.heap_setCell _ _ _ _ hne)).trans (h.other q hq hne).2⟩
end
end Go.Proofs.Ytccdgpijjgeedaa
