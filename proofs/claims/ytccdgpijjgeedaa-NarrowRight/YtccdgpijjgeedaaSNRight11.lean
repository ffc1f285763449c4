/- Raw poses made right. -/
import Derived.Test.YtccdgpijjgeedaaSNRight2
import Derived.Test.YtccdgpijjgeedaaSNRight4
import Derived.Test.YtccdgpijjgeedaaSNRight10
import Derived.Test.YtccdgpijjgeedaaSNRight7
set_option linter.unusedVariables false
namespace Go.Proofs.Ytccdgpijjgeedaa
section
open Go.RowKit Go.Shelf Fx
theorem pick6_any (c n : Int) (w : World) (hc : -9223372036854775808 <= c /\ c <= 9223372036854775807) (hn : 0 < n) (hn' : n <= 9223372036854775807) :
  Calls Try.prog 90 #[.int .i64 c, .int .i64 n] w fun e w' => e = .returned (.int .i64 (pickZ c n)) /\ w' = w := by
 unfold pickZ
 by_cases h : c < 0
 ·have hb : 0 <= -(c + 1) := by omega
  have hb' : -(c + 1) <= 9223372036854775807 := by omega
  have hz : (n == 0) = false := beq_eq_false_iff_ne.2 (by omega)
  rw [if_pos h]
  go_enter Try.func90, Try.ntmps90
  go_wp2
  go_ret
  have e : (c + 1).tmod n = -(-(c + 1) % n) := by
   rw [<- Int.tmod_eq_emod_of_nonneg hb, Int.neg_tmod, Int.neg_neg]
  exact ⟨by rw [e, Int.neg_neg]; rfl, rfl⟩
 ·have hz : (n == 0) = false := beq_eq_false_iff_ne.2 (by omega)
  rw [if_neg h]
  go_enter Try.func90, Try.ntmps90
  go_wp2
  go_ret
  exact ⟨rfl, rfl⟩
def partZ (n m : Int) : Int := pickZ n (2 * m + 1) - m
theorem partZ_in (n : Int) {m : Int} (hm : 0 <= m) : -m <= partZ n m /\ partZ n m <= m := by
 have h1 := pickZ_lo n (n := 2 * m + 1) (by omega)
 have h2 := pickZ_hi n (n := 2 * m + 1) (by omega)
 unfold partZ; omega
set_option maxHeartbeats 1000000 in
theorem part6_any (n m : Int) (w : World) (hn : -9223372036854775808 <= n /\ n <= 9223372036854775807) (hm : 0 <= m /\ m <= 4611686018427387903) :
  Calls Try.prog 62 #[.int .i64 n, .int .i64 m] w fun e w' => e = .returned (.int .i64 (partZ n m)) /\ w' = w := by
 have HP : Hid _ := fun w' => pick6_any n (2 * m + 1) w' hn (by omega) (by omega)
 have h1 := pickZ_lo n (n := 2 * m + 1) (by omega)
 have h2 := pickZ_hi n (n := 2 * m + 1) (by omega)
 unfold partZ
 generalize pickZ n (2 * m + 1) = pz at *
 have e1 : IntKind.i64.wrap (2 * m) = 2 * m := by rw [IntKind.wrap_i64]; omega
 have e2 : IntKind.i64.wrap (2 * m + 1) = 2 * m + 1 := by rw [IntKind.wrap_i64]; omega
 have e3 : IntKind.i64.wrap (pz - m) = pz - m := by rw [IntKind.wrap_i64]; omega
 go_enter Try.func62, Try.ntmps62
 go_wp2_with (fail)
 refine Calls.mono (HP.out _) ?_
 rintro e w' ⟨rfl, rfl⟩
 go_wp2_with (fail)
 go_ret
 exact ⟨rfl, rfl⟩
def Q4.v (q : Q4) : Value := .agg #[.int .i64 q.w, .int .i64 q.x, .int .i64 q.y, .int .i64 q.z]
def wholeN (q : Q4) : Int := (norm [q.w, q.x, q.y, q.z]).getD 0
def wholeB (q : Q4) : Bool := wholeBad q.w q.x q.y q.z
def wholeQ (q : Q4) : Q4 := ⟨cond (wholeB q) 0 ((ratio q.w 4294967296 (wholeN q)).getD 0), cond (wholeB q) 0 ((ratio q.x 4294967296 (wholeN q)).getD 0), cond (wholeB q) 0 ((ratio q.y 4294967296 (wholeN q)).getD 0), cond (wholeB q) 0 ((ratio q.z 4294967296 (wholeN q)).getD 0)⟩
theorem whole6_any (b off : Nat) (f : Bool) (q : Q4) (W : World) (hc : W.cell? ⟨b, off, none⟩ = some (.bool f)) (hf : W.frozen? ⟨b, off, none⟩ = false) :
  Calls Try.prog 61 #[.pointer (some ⟨b, off, none⟩), q.v] W fun e W' => e = .returned (wholeQ q).v /\ Hid (After ⟨b, off, none⟩ (f || wholeB q) W W') := by
 refine Calls.mono (rvwhole_law b off f q.w q.x q.y q.z W hc hf) ?_
 rintro e W' ⟨v0, v1, v2, v3, g, rfl, SS, A⟩
 obtain ⟨rfl, rfl, rfl, rfl, rfl⟩ := SS.out
 exact ⟨rfl, A⟩
theorem whole6_is {q : Q4} (h : wholeB q = false) : WM.Whole (wholeQ q).w (wholeQ q).x (wholeQ q).y (wholeQ q).z := by
 have hn : 2147483648 <= wholeN q := by
  have h9 := h
  unfold wholeB wholeBad at h9
  simp only [Bool.or_eq_false_iff, decide_eq_false_iff_not] at h9
  have := h9.1
  unfold wholeN
  omega
 cases hx : norm [q.w, q.x, q.y, q.z] with
 | none => unfold wholeN at hn; rw [hx] at hn; simp at hn
 | some n =>
  have en : wholeN q = n := by unfold wholeN; rw [hx]; rfl
  rw [en] at hn
  obtain ⟨a, b, c, d, l, e1, e2, e3, e4, _, _, _, k1, k2, k3, k4, k5, k6⟩ := WM.whole_long hx hn
  unfold wholeQ
  rw [h, en, e1, e2, e3, e4]
  exact ⟨k1, k2, k3, k4, k5, k6⟩
set_option maxHeartbeats 8000000 in
set_option maxRecDepth 100000 in
theorem right6_any (at0 at1 at2 qa qb_ qc qd : Int) (w0 : World) (f0 : -9223372036854775808 <= at0 /\ at0 <= 9223372036854775807) (f1 : -9223372036854775808 <= at1 /\ at1 <= 9223372036854775807) (f2 : -9223372036854775808 <= at2 /\ at2 <= 9223372036854775807) (f3 : -9223372036854775808 <= qa /\ qa <= 9223372036854775807) (f4 : -9223372036854775808 <= qb_ /\ qb_ <= 9223372036854775807) (f5 : -9223372036854775808 <= qc /\ qc <= 9223372036854775807) (f6 : -9223372036854775808 <= qd /\ qd <= 9223372036854775807) :
  Calls Try.prog 37 #[.agg #[.int .i64 at0, .int .i64 at1, .int .i64 at2, .int .i64 qa, .int .i64 qb_, .int .i64 qc, .int .i64 qd]] w0 fun e W => ∃ (t : Pt) (q : Q4), e = .returned (poseV t q) /\ t.inB 4398046511104 = true /\ WM.Whole q.w q.x q.y q.z /\ Below w0.heap.size w0 W := by
 have HP0 : Hid _ := fun w' => part6_any qa 1099511627776 w' f3 (by decide)
 have HP1 : Hid _ := fun w' => part6_any qb_ 1099511627776 w' f4 (by decide)
 have HP2 : Hid _ := fun w' => part6_any qc 1099511627776 w' f5 (by decide)
 have HP3 : Hid _ := fun w' => part6_any qd 1099511627776 w' f6 (by decide)
 have HA0 : Hid _ := fun w' => part6_any at0 4398046511104 w' f0 (by decide)
 have HA1 : Hid _ := fun w' => part6_any at1 4398046511104 w' f1 (by decide)
 have HA2 : Hid _ := fun w' => part6_any at2 4398046511104 w' f2 (by decide)
 have HT : Hid (Pt.inB ⟨partZ at0 4398046511104, partZ at1 4398046511104, partZ at2 4398046511104⟩ 4398046511104 = true) := (Pt.inB_iff _ _).2 ⟨partZ_in _ (by decide), partZ_in _ (by decide), partZ_in _ (by decide)⟩
 generalize partZ at0 4398046511104 = ta at *
 generalize partZ at1 4398046511104 = tb at *
 generalize partZ at2 4398046511104 = tc at *
 generalize partZ qa 1099511627776 = pw at *
 generalize partZ qb_ 1099511627776 = px at *
 generalize partZ qc 1099511627776 = py at *
 generalize partZ qd 1099511627776 = pz at *
 have HW : Hid _ := fun (b : Nat) (w : World) (f : Bool) => whole6_any b 0 f ⟨pw, px, py, pz⟩ w
 have HI : Hid (wholeB ⟨pw, px, py, pz⟩ = false -> WM.Whole (wholeQ ⟨pw, px, py, pz⟩).w (wholeQ ⟨pw, px, py, pz⟩).x (wholeQ ⟨pw, px, py, pz⟩).y (wholeQ ⟨pw, px, py, pz⟩).z) := whole6_is
 generalize wholeQ ⟨pw, px, py, pz⟩ = vq at *
 generalize wholeB ⟨pw, px, py, pz⟩ = bd at *
 obtain ⟨vw, vx, vy, vz⟩ := vq
 unfold Q4.v at HW
 dsimp only at HW HI
 clear f0 f1 f2 f3 f4 f5 f6
 go_enter Try.func37, Try.ntmps37
 go_upto_region 2 with fail
 obtain ⟨V, hV⟩ : ∃ V : World, V = ((w0.alloc (.cells #[.int .i64 at0, .int .i64 at1, .int .i64 at2, .int .i64 qa, .int .i64 qb_, .int .i64 qc, .int .i64 qd] 42)).alloc (.cells #[.int .i64 0, .int .i64 0, .int .i64 0, .int .i64 0, .int .i64 0, .int .i64 0, .int .i64 0] 70)).alloc (.cells #[.bool false] 90) := ⟨_, rfl⟩
 obtain ⟨rb, hrb⟩ : ∃ b, b = w0.heap.size := ⟨_, rfl⟩
 obtain ⟨ob, hob'⟩ : ∃ b, b = w0.heap.size + 1 := ⟨_, rfl⟩
 obtain ⟨wb, hwb'⟩ : ∃ b, b = w0.heap.size + 1 + 1 := ⟨_, rfl⟩
 have hBV : Hid (Below w0.heap.size w0 V) := by show Below _ _ _; rw [hV]; exact b_step (b_step (n_after _ _) (n_after _ _)) (n_after _ _)
 have B1 : Hid (Cells V rb [.int .i64 at0, .int .i64 at1, .int .i64 at2, .int .i64 qa, .int .i64 qb_, .int .i64 qc, .int .i64 qd]) := by show Cells _ _ _; rw [hV, hrb]; exact ((Cells.new w0 [.int .i64 at0, .int .i64 at1, .int .i64 at2, .int .i64 qa, .int .i64 qb_, .int .i64 qc, .int .i64 qd] _).step (n_after _ _)).step (n_after _ _)
 have B3 : Hid (Cells V ob [.int .i64 0, .int .i64 0, .int .i64 0, .int .i64 0, .int .i64 0, .int .i64 0, .int .i64 0]) := by show Cells _ _ _; rw [hV, hob']; have h9 := (Cells.new (w0.alloc (.cells #[.int .i64 at0, .int .i64 at1, .int .i64 at2, .int .i64 qa, .int .i64 qb_, .int .i64 qc, .int .i64 qd] 42)) [.int .i64 0, .int .i64 0, .int .i64 0, .int .i64 0, .int .i64 0, .int .i64 0, .int .i64 0] 70).step (n_after _ (.cells #[.bool false] 90)); rw [World.size_alloc] at h9; exact h9
 have B2 : Hid (Cells V wb [.bool false]) := by show Cells _ _ _; rw [hV, hwb']; have h9 := Cells.new ((w0.alloc (.cells #[.int .i64 at0, .int .i64 at1, .int .i64 at2, .int .i64 qa, .int .i64 qb_, .int .i64 qc, .int .i64 qd] 42)).alloc (.cells #[.int .i64 0, .int .i64 0, .int .i64 0, .int .i64 0, .int .i64 0, .int .i64 0, .int .i64 0] 70)) [.bool false] 90; rw [World.size_alloc, World.size_alloc] at h9; exact h9
 have hVs : V.heap.size = w0.heap.size + 3 := by rw [hV]; simp
 rw [<- hV, <- hwb', <- hob', <- hrb]
 have hwb : w0.heap.size <= wb := by omega
 have hob : w0.heap.size <= ob := by omega
 have hrw : rb ≠ wb := by omega
 have how_ : ob ≠ wb := by omega
 have hro : rb ≠ ob := by omega
 have hwV : wb < V.heap.size := by omega
 have hrV : rb < V.heap.size := by omega
 have hoV : ob < V.heap.size := by omega
 clear hV hrb hob' hwb'
 have HW : Hid _ := HW.out wb
 go_cut [4] from 5 (fun s4 wx => ∃ b3 : Nat, s4 = .pointer (some ⟨b3, 0, none⟩) /\ Below w0.heap.size w0 wx /\ Cells wx rb [.int .i64 at0, .int .i64 at1, .int .i64 at2, .int .i64 qa, .int .i64 qb_, .int .i64 qc, .int .i64 qd] /\ Cells wx ob [.int .i64 0, .int .i64 0, .int .i64 0, .int .i64 0, .int .i64 0, .int .i64 0, .int .i64 0] /\ Cells wx b3 [.int .i64 vw, .int .i64 vx, .int .i64 vy, .int .i64 vz] /\ w0.heap.size <= b3 /\ rb ≠ b3 /\ ob ≠ b3 /\ wx.cell? ⟨wb, 0, none⟩ = some (.bool bd))
 case first =>
  refine RV.region_by (fun j v w => match j with | 0 => v = .pointer (some ⟨wb, 0, none⟩) | 1 => v = .pointer (some ⟨rb, 3, none⟩) | 2 => v = .pointer (some ⟨rb, 3, none⟩) | 3 => v = .int .i64 qa | 4 => v = .int .i64 pw | 5 => v = .pointer (some ⟨rb, 3, none⟩) | 6 => v = .pointer (some ⟨rb, 4, none⟩) | 7 => v = .int .i64 qb_ | 8 => v = .int .i64 px | 9 => v = .pointer (some ⟨rb, 3, none⟩) | 10 => v = .pointer (some ⟨rb, 5, none⟩) | 11 => v = .int .i64 qc | 12 => v = .int .i64 py | 13 => v = .pointer (some ⟨rb, 3, none⟩) | 14 => v = .pointer (some ⟨rb, 6, none⟩) | 15 => v = .int .i64 qd | 16 => v = .int .i64 pz | 17 => v = .agg #[.int .i64 pw, .int .i64 px, .int .i64 py, .int .i64 pz] | 18 => v = .agg #[.int .i64 vw, .int .i64 vx, .int .i64 vy, .int .i64 vz] | 19 => True | 20 => True | _ => True) (fun γ L w => Below w0.heap.size w0 w /\ Cells w rb [.int .i64 at0, .int .i64 at1, .int .i64 at2, .int .i64 qa, .int .i64 qb_, .int .i64 qc, .int .i64 qd] /\ Cells w wb [.bool (L 18 && bd)] /\ Cells w ob [.int .i64 0, .int .i64 0, .int .i64 0, .int .i64 0, .int .i64 0, .int .i64 0, .int .i64 0] /\ RV.Pend V 40 19 20 #[.int .i64 vw, .int .i64 vx, .int .i64 vy, .int .i64 vz] γ L w /\ V.heap.size <= w.heap.size) (by kernel_rfl) (by kernel_rfl) (by kernel_rfl) (by kernel_rfl) ?_ ?_ ?_
  ·have b9 : Below V.heap.size V V.drew := (Below.refl _ _).drew; exact ⟨b_step hBV.out b9, B1.out.step b9, B2.out.step b9, B3.out.step b9, RV.Pend.start rfl, Nat.le_refl _⟩
  ·generalize hD : dstOf _ = D
   generalize hWA : waitsFor _ = WA
   generalize hZ : Act.mk _ _ = Z
   refine RV.AllDo.name ?_
   intro R hR
   have d0 : D 0 = some 7 := by rw [<- hD]; rfl
   have d1 : D 1 = some 8 := by rw [<- hD]; rfl
   have d2 : D 2 = some 9 := by rw [<- hD]; rfl
   have d3 : D 3 = some 10 := by rw [<- hD]; rfl
   have d4 : D 4 = some 11 := by rw [<- hD]; rfl
   have d5 : D 5 = some 12 := by rw [<- hD]; rfl
   have d6 : D 6 = some 13 := by rw [<- hD]; rfl
   have d7 : D 7 = some 14 := by rw [<- hD]; rfl
   have d8 : D 8 = some 15 := by rw [<- hD]; rfl
   have d9 : D 9 = some 16 := by rw [<- hD]; rfl
   have d10 : D 10 = some 17 := by rw [<- hD]; rfl
   have d11 : D 11 = some 18 := by rw [<- hD]; rfl
   have d12 : D 12 = some 19 := by rw [<- hD]; rfl
   have d13 : D 13 = some 20 := by rw [<- hD]; rfl
   have d14 : D 14 = some 21 := by rw [<- hD]; rfl
   have d15 : D 15 = some 22 := by rw [<- hD]; rfl
   have d16 : D 16 = some 23 := by rw [<- hD]; rfl
   have d17 : D 17 = some 24 := by rw [<- hD]; rfl
   have d18 : D 18 = some 25 := by rw [<- hD]; rfl
   have d19 : D 19 = some 4 := by rw [<- hD]; rfl
   have r0 : ∀ v w, R 0 v w = (v = .pointer (some ⟨wb, 0, none⟩)) := fun v w => by rw [hR]; rfl
   have r1 : ∀ v w, R 1 v w = (v = .pointer (some ⟨rb, 3, none⟩)) := fun v w => by rw [hR]; rfl
   have r2 : ∀ v w, R 2 v w = (v = .pointer (some ⟨rb, 3, none⟩)) := fun v w => by rw [hR]; rfl
   have r3 : ∀ v w, R 3 v w = (v = .int .i64 qa) := fun v w => by rw [hR]; rfl
   have r4 : ∀ v w, R 4 v w = (v = .int .i64 pw) := fun v w => by rw [hR]; rfl
   have r5 : ∀ v w, R 5 v w = (v = .pointer (some ⟨rb, 3, none⟩)) := fun v w => by rw [hR]; rfl
   have r6 : ∀ v w, R 6 v w = (v = .pointer (some ⟨rb, 4, none⟩)) := fun v w => by rw [hR]; rfl
   have r7 : ∀ v w, R 7 v w = (v = .int .i64 qb_) := fun v w => by rw [hR]; rfl
   have r8 : ∀ v w, R 8 v w = (v = .int .i64 px) := fun v w => by rw [hR]; rfl
   have r9 : ∀ v w, R 9 v w = (v = .pointer (some ⟨rb, 3, none⟩)) := fun v w => by rw [hR]; rfl
   have r10 : ∀ v w, R 10 v w = (v = .pointer (some ⟨rb, 5, none⟩)) := fun v w => by rw [hR]; rfl
   have r11 : ∀ v w, R 11 v w = (v = .int .i64 qc) := fun v w => by rw [hR]; rfl
   have r12 : ∀ v w, R 12 v w = (v = .int .i64 py) := fun v w => by rw [hR]; rfl
   have r13 : ∀ v w, R 13 v w = (v = .pointer (some ⟨rb, 3, none⟩)) := fun v w => by rw [hR]; rfl
   have r14 : ∀ v w, R 14 v w = (v = .pointer (some ⟨rb, 6, none⟩)) := fun v w => by rw [hR]; rfl
   have r15 : ∀ v w, R 15 v w = (v = .int .i64 qd) := fun v w => by rw [hR]; rfl
   have r16 : ∀ v w, R 16 v w = (v = .int .i64 pz) := fun v w => by rw [hR]; rfl
   have r17 : ∀ v w, R 17 v w = (v = .agg #[.int .i64 pw, .int .i64 px, .int .i64 py, .int .i64 pz]) := fun v w => by rw [hR]; rfl
   have r18 : ∀ v w, R 18 v w = (v = .agg #[.int .i64 vw, .int .i64 vx, .int .i64 vy, .int .i64 vz]) := fun v w => by rw [hR]; rfl
   have r19 : ∀ v w, R 19 v w = (True) := fun v w => by rw [hR]; rfl
   have r20 : ∀ v w, R 20 v w = (True) := fun v w => by rw [hR]; rfl
   have F1_ : ∀ j, D j ≠ some 1 := by rw [<- hD]; exact RV.dst_free (by kernel_rfl)
   have Z1_ : Z.tmps[1]? = some (.pointer (some ⟨rb, 0, none⟩)) := by rw [<- hZ]; rfl
   have F3_ : ∀ j, D j ≠ some 3 := by rw [<- hD]; exact RV.dst_free (by kernel_rfl)
   have Z3_ : Z.tmps[3]? = some (.pointer (some ⟨wb, 0, none⟩)) := by rw [<- hZ]; rfl
   have K : ∀ j v w w', R j v w -> R j v w' := by rw [hR]; intro j v w w' h; exact h
   have A_20_19 : WA 20 19 := by rw [<- hWA]; exact ⟨_, rfl, ⟨19, .data⟩, by simp, rfl, rfl⟩
   clear hD hWA hZ hR
   refine RV.cc 0 (RV.dp (fun γ v L w hl h => ⟨h.1, h.2.1, by rw [RV.mn (L := L) (i := 0) (j := 18) (by decide)]; exact h.2.2.1, h.2.2.2.1, h.2.2.2.2.1.other v (by decide) (by decide), h.2.2.2.2.2⟩) (fun γ L a w hH hl hA => by have e0 := ((hH.rest 3 F3_).trans Z3_); exact ⟨.pointer (some ⟨wb, 0, none⟩), by simp [execOp, go_sem, e0], (r0 _ _).mpr rfl⟩)) ?_
   refine RV.cc 1 (RV.dp (fun γ v L w hl h => ⟨h.1, h.2.1, by rw [RV.mn (L := L) (i := 1) (j := 18) (by decide)]; exact h.2.2.1, h.2.2.2.1, h.2.2.2.2.1.other v (by decide) (by decide), h.2.2.2.2.2⟩) (fun γ L a w hH hl hA => by have e0 := ((hH.rest 1 F1_).trans Z1_); exact ⟨.pointer (some ⟨rb, 3, none⟩), by simp [execOp, go_sem, e0], (r1 _ _).mpr rfl⟩)) ?_
   refine RV.cc 2 (RV.dp (fun γ v L w hl h => ⟨h.1, h.2.1, by rw [RV.mn (L := L) (i := 2) (j := 18) (by decide)]; exact h.2.2.1, h.2.2.2.1, h.2.2.2.2.1.other v (by decide) (by decide), h.2.2.2.2.2⟩) (fun γ L a w hH hl hA => by have e0 := hH.got d1 r1 (hA ⟨1, .data⟩ (by simp) rfl); exact ⟨.pointer (some ⟨rb, 3, none⟩), by simp [execOp, go_sem, e0], (r2 _ _).mpr rfl⟩)) ?_
   refine RV.cc 3 (RV.dp (fun γ v L w hl h => ⟨h.1, h.2.1, by rw [RV.mn (L := L) (i := 3) (j := 18) (by decide)]; exact h.2.2.1, h.2.2.2.1, h.2.2.2.2.1.other v (by decide) (by decide), h.2.2.2.2.2⟩) (fun γ L a w hH hl hA => by have e0 := hH.got d2 r2 (hA ⟨2, .data⟩ (by simp) rfl); have wz9 := (hH.glob.2.1 3 _ rfl).1; exact ⟨.int .i64 qa, by simp [execOp, go_sem, e0, wz9], (r3 _ _).mpr rfl⟩)) ?_
   refine RV.cc 4 (RV.dc (fun γ L a w hH hl hA => by have e0 := hH.got d3 r3 (hA ⟨3, .data⟩ (by simp) rfl); refine ⟨62, #[.int .i64 qa, .int .i64 1099511627776], by simp [go_sem, e0], Calls.mono (HP0.out w) ?_⟩; rintro e w2 ⟨rfl, rfl⟩; exact ⟨_, rfl, (r4 _ _).mpr rfl, fun j v _ h => K j v _ _ h, hH.glob.1, hH.glob.2.1, by rw [RV.mn (L := L) (i := 4) (j := 18) (by decide)]; exact hH.glob.2.2.1, hH.glob.2.2.2.1, hH.glob.2.2.2.2.1.other _ (by decide) (by decide), hH.glob.2.2.2.2.2⟩)) ?_
   refine RV.cc 5 (RV.dp (fun γ v L w hl h => ⟨h.1, h.2.1, by rw [RV.mn (L := L) (i := 5) (j := 18) (by decide)]; exact h.2.2.1, h.2.2.2.1, h.2.2.2.2.1.other v (by decide) (by decide), h.2.2.2.2.2⟩) (fun γ L a w hH hl hA => by have e0 := ((hH.rest 1 F1_).trans Z1_); exact ⟨.pointer (some ⟨rb, 3, none⟩), by simp [execOp, go_sem, e0], (r5 _ _).mpr rfl⟩)) ?_
   refine RV.cc 6 (RV.dp (fun γ v L w hl h => ⟨h.1, h.2.1, by rw [RV.mn (L := L) (i := 6) (j := 18) (by decide)]; exact h.2.2.1, h.2.2.2.1, h.2.2.2.2.1.other v (by decide) (by decide), h.2.2.2.2.2⟩) (fun γ L a w hH hl hA => by have e0 := hH.got d5 r5 (hA ⟨5, .data⟩ (by simp) rfl); exact ⟨.pointer (some ⟨rb, 4, none⟩), by simp [execOp, go_sem, e0], (r6 _ _).mpr rfl⟩)) ?_
   refine RV.cc 7 (RV.dp (fun γ v L w hl h => ⟨h.1, h.2.1, by rw [RV.mn (L := L) (i := 7) (j := 18) (by decide)]; exact h.2.2.1, h.2.2.2.1, h.2.2.2.2.1.other v (by decide) (by decide), h.2.2.2.2.2⟩) (fun γ L a w hH hl hA => by have e0 := hH.got d6 r6 (hA ⟨6, .data⟩ (by simp) rfl); have wz9 := (hH.glob.2.1 4 _ rfl).1; exact ⟨.int .i64 qb_, by simp [execOp, go_sem, e0, wz9], (r7 _ _).mpr rfl⟩)) ?_
   refine RV.cc 8 (RV.dc (fun γ L a w hH hl hA => by have e0 := hH.got d7 r7 (hA ⟨7, .data⟩ (by simp) rfl); refine ⟨62, #[.int .i64 qb_, .int .i64 1099511627776], by simp [go_sem, e0], Calls.mono (HP1.out w) ?_⟩; rintro e w2 ⟨rfl, rfl⟩; exact ⟨_, rfl, (r8 _ _).mpr rfl, fun j v _ h => K j v _ _ h, hH.glob.1, hH.glob.2.1, by rw [RV.mn (L := L) (i := 8) (j := 18) (by decide)]; exact hH.glob.2.2.1, hH.glob.2.2.2.1, hH.glob.2.2.2.2.1.other _ (by decide) (by decide), hH.glob.2.2.2.2.2⟩)) ?_
   refine RV.cc 9 (RV.dp (fun γ v L w hl h => ⟨h.1, h.2.1, by rw [RV.mn (L := L) (i := 9) (j := 18) (by decide)]; exact h.2.2.1, h.2.2.2.1, h.2.2.2.2.1.other v (by decide) (by decide), h.2.2.2.2.2⟩) (fun γ L a w hH hl hA => by have e0 := ((hH.rest 1 F1_).trans Z1_); exact ⟨.pointer (some ⟨rb, 3, none⟩), by simp [execOp, go_sem, e0], (r9 _ _).mpr rfl⟩)) ?_
   refine RV.cc 10 (RV.dp (fun γ v L w hl h => ⟨h.1, h.2.1, by rw [RV.mn (L := L) (i := 10) (j := 18) (by decide)]; exact h.2.2.1, h.2.2.2.1, h.2.2.2.2.1.other v (by decide) (by decide), h.2.2.2.2.2⟩) (fun γ L a w hH hl hA => by have e0 := hH.got d9 r9 (hA ⟨9, .data⟩ (by simp) rfl); exact ⟨.pointer (some ⟨rb, 5, none⟩), by simp [execOp, go_sem, e0], (r10 _ _).mpr rfl⟩)) ?_
   refine RV.cc 11 (RV.dp (fun γ v L w hl h => ⟨h.1, h.2.1, by rw [RV.mn (L := L) (i := 11) (j := 18) (by decide)]; exact h.2.2.1, h.2.2.2.1, h.2.2.2.2.1.other v (by decide) (by decide), h.2.2.2.2.2⟩) (fun γ L a w hH hl hA => by have e0 := hH.got d10 r10 (hA ⟨10, .data⟩ (by simp) rfl); have wz9 := (hH.glob.2.1 5 _ rfl).1; exact ⟨.int .i64 qc, by simp [execOp, go_sem, e0, wz9], (r11 _ _).mpr rfl⟩)) ?_
   refine RV.cc 12 (RV.dc (fun γ L a w hH hl hA => by have e0 := hH.got d11 r11 (hA ⟨11, .data⟩ (by simp) rfl); refine ⟨62, #[.int .i64 qc, .int .i64 1099511627776], by simp [go_sem, e0], Calls.mono (HP2.out w) ?_⟩; rintro e w2 ⟨rfl, rfl⟩; exact ⟨_, rfl, (r12 _ _).mpr rfl, fun j v _ h => K j v _ _ h, hH.glob.1, hH.glob.2.1, by rw [RV.mn (L := L) (i := 12) (j := 18) (by decide)]; exact hH.glob.2.2.1, hH.glob.2.2.2.1, hH.glob.2.2.2.2.1.other _ (by decide) (by decide), hH.glob.2.2.2.2.2⟩)) ?_
   refine RV.cc 13 (RV.dp (fun γ v L w hl h => ⟨h.1, h.2.1, by rw [RV.mn (L := L) (i := 13) (j := 18) (by decide)]; exact h.2.2.1, h.2.2.2.1, h.2.2.2.2.1.other v (by decide) (by decide), h.2.2.2.2.2⟩) (fun γ L a w hH hl hA => by have e0 := ((hH.rest 1 F1_).trans Z1_); exact ⟨.pointer (some ⟨rb, 3, none⟩), by simp [execOp, go_sem, e0], (r13 _ _).mpr rfl⟩)) ?_
   refine RV.cc 14 (RV.dp (fun γ v L w hl h => ⟨h.1, h.2.1, by rw [RV.mn (L := L) (i := 14) (j := 18) (by decide)]; exact h.2.2.1, h.2.2.2.1, h.2.2.2.2.1.other v (by decide) (by decide), h.2.2.2.2.2⟩) (fun γ L a w hH hl hA => by have e0 := hH.got d13 r13 (hA ⟨13, .data⟩ (by simp) rfl); exact ⟨.pointer (some ⟨rb, 6, none⟩), by simp [execOp, go_sem, e0], (r14 _ _).mpr rfl⟩)) ?_
   refine RV.cc 15 (RV.dp (fun γ v L w hl h => ⟨h.1, h.2.1, by rw [RV.mn (L := L) (i := 15) (j := 18) (by decide)]; exact h.2.2.1, h.2.2.2.1, h.2.2.2.2.1.other v (by decide) (by decide), h.2.2.2.2.2⟩) (fun γ L a w hH hl hA => by have e0 := hH.got d14 r14 (hA ⟨14, .data⟩ (by simp) rfl); have wz9 := (hH.glob.2.1 6 _ rfl).1; exact ⟨.int .i64 qd, by simp [execOp, go_sem, e0, wz9], (r15 _ _).mpr rfl⟩)) ?_
   refine RV.cc 16 (RV.dc (fun γ L a w hH hl hA => by have e0 := hH.got d15 r15 (hA ⟨15, .data⟩ (by simp) rfl); refine ⟨62, #[.int .i64 qd, .int .i64 1099511627776], by simp [go_sem, e0], Calls.mono (HP3.out w) ?_⟩; rintro e w2 ⟨rfl, rfl⟩; exact ⟨_, rfl, (r16 _ _).mpr rfl, fun j v _ h => K j v _ _ h, hH.glob.1, hH.glob.2.1, by rw [RV.mn (L := L) (i := 16) (j := 18) (by decide)]; exact hH.glob.2.2.1, hH.glob.2.2.2.1, hH.glob.2.2.2.2.1.other _ (by decide) (by decide), hH.glob.2.2.2.2.2⟩)) ?_
   refine RV.cc 17 (RV.dp (fun γ v L w hl h => ⟨h.1, h.2.1, by rw [RV.mn (L := L) (i := 17) (j := 18) (by decide)]; exact h.2.2.1, h.2.2.2.1, h.2.2.2.2.1.other v (by decide) (by decide), h.2.2.2.2.2⟩) (fun γ L a w hH hl hA => by have e0 := hH.got d4 r4 (hA ⟨4, .data⟩ (by simp) rfl); have e1 := hH.got d8 r8 (hA ⟨8, .data⟩ (by simp) rfl); have e2 := hH.got d12 r12 (hA ⟨12, .data⟩ (by simp) rfl); have e3 := hH.got d16 r16 (hA ⟨16, .data⟩ (by simp) rfl); exact ⟨.agg #[.int .i64 pw, .int .i64 px, .int .i64 py, .int .i64 pz], by simp [execOp, go_sem, e0, e1, e2, e3], (r17 _ _).mpr rfl⟩)) ?_
   refine RV.cc 18 (RV.dc (fun γ L a w hH hl hA => by have e0 := hH.got d0 r0 (hA ⟨0, .data⟩ (by simp) rfl); have e1 := hH.got d17 r17 (hA ⟨17, .data⟩ (by simp) rfl); have hG := hH.glob; rw [hl] at hG; have wz := hG.2.2.1 0 _ rfl; refine ⟨61, #[.pointer (some ⟨wb, 0, none⟩), .agg #[.int .i64 pw, .int .i64 px, .int .i64 py, .int .i64 pz]], by simp [go_sem, e0, e1], Calls.mono (HW.out w _ wz.1 wz.2) ?_⟩; rintro e w2 ⟨rfl, A⟩; refine ⟨_, rfl, (r18 _ _).mpr rfl, fun j v _ h => K j v _ _ h, ?_⟩; have A9 := A.out; exact ⟨A9.on hG.1 hwb, hG.2.1.beside A9 hrw, by rw [RV.more_self]; exact Cells.after hG.2.2.1 A9, hG.2.2.2.1.beside A9 how_, (hG.2.2.2.2.1.after A9 hwV).other _ (by decide) (by decide), Nat.le_trans hG.2.2.2.2.2 A9.size⟩)) ?_
   refine RV.cc 19 (RV.does_step (fun γ L a w hH hl hA => by have hG := hH.glob; have h20 : L 20 = false := RV.ny hH A_20_19 hl; exact ⟨.pointer (some ⟨w.heap.size, 0, none⟩), w.alloc (.cells #[.int .i64 0, .int .i64 0, .int .i64 0, .int .i64 0] 40), by simp [execOp, go_sem], (r19 _ _).mpr trivial, fun j v _ h => K j v _ _ h, hG.1.alloc hG.1.size _, hG.2.1.step (n_after _ _), by rw [RV.mn (L := L) (i := 19) (j := 18) (by decide)]; exact hG.2.2.1.step (n_after _ _), hG.2.2.2.1.step (n_after _ _), RV.Pend.made _ rfl hG.2.2.2.2.2 h20 (by decide), by rw [World.size_alloc]; have h8 := hG.2.2.2.2.2; omega⟩)) ?_
   refine RV.cc 20 (RV.does_store (fun γ L a w hH hl hA => by have l0 : L 19 = true := hA ⟨19, .data⟩ (by simp) rfl; have e0 := hH.slot 19 4 d19 l0; have g0 := hH.holds 19 l0; rw [r19] at g0; have e1 := hH.got d18 r18 (hA ⟨18, .data⟩ (by simp) rfl); have hG := hH.glob; obtain ⟨b, cs, hb1, hb2, hb3, hb4, _⟩ := hG.2.2.2.2.1 l0; rw [hb1] at e0; obtain ⟨u0, u1, u2, u3, rfl⟩ := arr4' hb4; have wz0 : w.cell? ⟨b, 0, none⟩ = some u0 := (by simp [World.cell?, hb3]); have wz1 : w.cell? ⟨b, 1, none⟩ = some u1 := (by simp [World.cell?, hb3]); have wz2 : w.cell? ⟨b, 2, none⟩ = some u2 := (by simp [World.cell?, hb3]); have wz3 : w.cell? ⟨b, 3, none⟩ = some u3 := (by simp [World.cell?, hb3]); have zf : ∀ o, w.frozen? ⟨b, o, none⟩ = false := fun o => (by simp [World.frozen?, hb3]); have n1 : rb ≠ b := (by omega); have n2 : wb ≠ b := (by omega); have n3 : ob ≠ b := (by omega); have n4 : w0.heap.size <= b := (by omega); exact ⟨((((w.setCell ⟨b, 0, none⟩ (.int .i64 vw)).setCell ⟨b, 1, none⟩ (.int .i64 vx)).setCell ⟨b, 2, none⟩ (.int .i64 vy)).setCell ⟨b, 3, none⟩ (.int .i64 vz)), by simp [execOp, go_sem, e0, e1, wz0, wz1, wz2, wz3, zf], (r20 _ _).mpr trivial, fun j v _ h => K j v _ _ h, ((((hG.1.setCell n4 _).setCell n4 _).setCell n4 _).setCell n4 _), ((((hG.2.1.apart n1 0 _).apart n1 1 _).apart n1 2 _).apart n1 3 _), by rw [RV.mn (L := L) (i := 20) (j := 18) (by decide)]; exact ((((hG.2.2.1.apart n2 0 _).apart n2 1 _).apart n2 2 _).apart n2 3 _), ((((hG.2.2.2.1.apart n3 0 _).apart n3 1 _).apart n3 2 _).apart n3 3 _), RV.Pend.filled hb1 hb2 (by have q0 := Go.heap_setCell_same w b 0 _ _ (.int .i64 vw) hb3; have q1 := Go.heap_setCell_same _ b 1 _ _ (.int .i64 vx) q0; have q2 := Go.heap_setCell_same _ b 2 _ _ (.int .i64 vy) q1; have q3 := Go.heap_setCell_same _ b 3 _ _ (.int .i64 vz) q2; simpa using q3) (by decide) _, by have h8 := hG.2.2.2.2.2; simpa [World.setCell] using h8⟩)) ?_
   exact RV.AllDo.nil
  ·intro γ a5 w5 L9 hL hLo hH
   have ha := RV.held_act hH hL (by kernel_rfl) (by kernel_rfl)
   have hG := hH.glob
   rw [hL 18 (by decide)] at hG
   obtain ⟨b3, cs, hb1, hb2, hb3, _, hb5⟩ := hG.2.2.2.2.1 (hL 19 (by decide))
   rw [hb5 (hL 20 (by decide))] at hb3
   rw [ha]
   clear ha hH hL hLo hb5
   simp only [RV.putAll, Act.put, List.setIfInBounds_toArray, List.set_cons_zero, List.set_cons_succ, Nat.zero_add, Nat.reduceAdd]
   rw [hb1]
   have C3 : Cells w5 b3 [.int .i64 vw, .int .i64 vx, .int .i64 vy, .int .i64 vz] := fun i v e => ⟨by simp [World.cell?, hb3]; exact e, by simp [World.frozen?, hb3]⟩
   have HH : Hid (Below w0.heap.size w0 w5 /\ Cells w5 rb [.int .i64 at0, .int .i64 at1, .int .i64 at2, .int .i64 qa, .int .i64 qb_, .int .i64 qc, .int .i64 qd] /\ Cells w5 ob [.int .i64 0, .int .i64 0, .int .i64 0, .int .i64 0, .int .i64 0, .int .i64 0, .int .i64 0]) := ⟨hG.1, hG.2.1, hG.2.2.2.1⟩
   have fl := (hG.2.2.1 0 _ rfl).1
   have nrb : rb ≠ b3 := by omega
   have nob : ob ≠ b3 := by omega
   have nb4 : w0.heap.size <= b3 := by omega
   clear hG hb1 hb3
   go_wp2_with (fail)
   go_meet
   case rel => exact ⟨b3, rfl, HH.out.1, HH.out.2.1, HH.out.2.2, C3, nb4, nrb, nob, by simpa using fl⟩
 case rest =>
  obtain ⟨b3, rfl, k1, k2, k3, k4, nb4, nrb, nob, fl⟩ := hcut
  have hbo : b3 ≠ ob := fun e => nob e.symm
  have H1 : Hid _ := And.intro k1 (And.intro k2 (And.intro k3 k4))
  clear k1 k2 k3 k4 B1 B2 B3 hBV HP0 HP1 HP2 HP3 HW
  go_upto_if 29 with fail
  go_cut [] from 26 (fun wx => ∃ ua ub uc ud : Int, Hid (WM.Whole ua ub uc ud) /\ Below w0.heap.size w0 wx /\ Cells wx rb [.int .i64 at0, .int .i64 at1, .int .i64 at2, .int .i64 qa, .int .i64 qb_, .int .i64 qc, .int .i64 qd] /\ Cells wx ob [.int .i64 0, .int .i64 0, .int .i64 0, .int .i64 0, .int .i64 0, .int .i64 0, .int .i64 0] /\ Cells wx b3 [.int .i64 ua, .int .i64 ub, .int .i64 uc, .int .i64 ud])
  case first =>
   cases bd with
   | false =>
    go_wp2_with (fail)
    go_meet
    case rel => exact ⟨vw, vx, vy, vz, (by first | exact HI.out rfl | exact HI.out trivial), H1.out.1, H1.out.2.1, H1.out.2.2.1, H1.out.2.2.2⟩
   | true =>
    obtain ⟨k1, k2, k3, k4⟩ := H1.out
    have HN : Hid (Below w0.heap.size w0 (set4 wc b3 (.int .i64 4294967296) (.int .i64 0) (.int .i64 0) (.int .i64 0)) /\ Cells (set4 wc b3 (.int .i64 4294967296) (.int .i64 0) (.int .i64 0) (.int .i64 0)) rb [.int .i64 at0, .int .i64 at1, .int .i64 at2, .int .i64 qa, .int .i64 qb_, .int .i64 qc, .int .i64 qd] /\ Cells (set4 wc b3 (.int .i64 4294967296) (.int .i64 0) (.int .i64 0) (.int .i64 0)) ob [.int .i64 0, .int .i64 0, .int .i64 0, .int .i64 0, .int .i64 0, .int .i64 0, .int .i64 0] /\ Cells (set4 wc b3 (.int .i64 4294967296) (.int .i64 0) (.int .i64 0) (.int .i64 0)) b3 [.int .i64 4294967296, .int .i64 0, .int .i64 0, .int .i64 0]) :=
     ⟨set4_below k1 nb4 _ _ _ _, ((((Cells.apart k2 nrb 0 _).apart nrb 1 _).apart nrb 2 _).apart nrb 3 _), ((((Cells.apart k3 nob 0 _).apart nob 1 _).apart nob 2 _).apart nob 3 _), Cells.set4 k4 _ _ _ _⟩
    obtain ⟨z0, z0f⟩ := k4 0 _ rfl
    obtain ⟨z1, z1f⟩ := k4 1 _ rfl
    obtain ⟨z2, z2f⟩ := k4 2 _ rfl
    obtain ⟨z3, z3f⟩ := k4 3 _ rfl
    unfold set4 at HN
    clear k1 k2 k3 k4
    go_wp2_with (fail)
    go_meet
    case rel => exact ⟨4294967296, 0, 0, 0, (by unfold WM.Whole; decide : WM.Whole 4294967296 0 0 0), HN.out.1, HN.out.2.1, HN.out.2.2.1, HN.out.2.2.2⟩
  case rest =>
   obtain ⟨ua, ub, uc, ud, HQ9, k1, k2, k3, k4⟩ := hcut
   clear H1 fl HI
   go_upto_region 5 with fail
   obtain ⟨X, hX⟩ : ∃ X : World, X = wc := ⟨_, rfl⟩
   rw [<- hX] at k1 k2 k3 k4 ⊢
   clear hX
   refine RV.region_by (fun j v w => match j with | 0 => v = .pointer (some ⟨rb, 0, none⟩) | 1 => v = .pointer (some ⟨rb, 0, none⟩) | 2 => v = .int .i64 at0 | 3 => v = .int .i64 ta | 4 => v = .pointer (some ⟨rb, 0, none⟩) | 5 => v = .pointer (some ⟨rb, 1, none⟩) | 6 => v = .int .i64 at1 | 7 => v = .int .i64 tb | 8 => v = .pointer (some ⟨rb, 0, none⟩) | 9 => v = .pointer (some ⟨rb, 2, none⟩) | 10 => v = .int .i64 at2 | 11 => v = .int .i64 tc | 12 => v = .agg #[.int .i64 ta, .int .i64 tb, .int .i64 tc] | 13 => v = .agg #[.int .i64 ua, .int .i64 ub, .int .i64 uc, .int .i64 ud] | 14 => v = .agg #[.int .i64 ta, .int .i64 tb, .int .i64 tc, .int .i64 ua, .int .i64 ub, .int .i64 uc, .int .i64 ud] | 15 => True | _ => True) (fun γ L w => Below w0.heap.size w0 w /\ Cells w rb [.int .i64 at0, .int .i64 at1, .int .i64 at2, .int .i64 qa, .int .i64 qb_, .int .i64 qc, .int .i64 qd] /\ Cells w b3 [.int .i64 ua, .int .i64 ub, .int .i64 uc, .int .i64 ud] /\ Cells w ob (cond (L 15) [.int .i64 ta, .int .i64 tb, .int .i64 tc, .int .i64 ua, .int .i64 ub, .int .i64 uc, .int .i64 ud] [.int .i64 0, .int .i64 0, .int .i64 0, .int .i64 0, .int .i64 0, .int .i64 0, .int .i64 0])) (by kernel_rfl) (by kernel_rfl) (by kernel_rfl) (by kernel_rfl) ?_ ?_ ?_
   ·have b9 : Below X.heap.size X X.drew := (Below.refl _ _).drew; exact ⟨b_step k1 b9, Cells.step k2 b9, Cells.step k4 b9, Cells.step k3 b9⟩
   ·generalize hD : dstOf _ = D
    generalize hWA : waitsFor _ = WA
    generalize hZ : Act.mk _ _ = Z
    refine RV.AllDo.name ?_
    intro R hR
    have d0 : D 0 = some 31 := by rw [<- hD]; rfl
    have d1 : D 1 = some 32 := by rw [<- hD]; rfl
    have d2 : D 2 = some 33 := by rw [<- hD]; rfl
    have d3 : D 3 = some 34 := by rw [<- hD]; rfl
    have d4 : D 4 = some 35 := by rw [<- hD]; rfl
    have d5 : D 5 = some 36 := by rw [<- hD]; rfl
    have d6 : D 6 = some 37 := by rw [<- hD]; rfl
    have d7 : D 7 = some 38 := by rw [<- hD]; rfl
    have d8 : D 8 = some 39 := by rw [<- hD]; rfl
    have d9 : D 9 = some 40 := by rw [<- hD]; rfl
    have d10 : D 10 = some 41 := by rw [<- hD]; rfl
    have d11 : D 11 = some 42 := by rw [<- hD]; rfl
    have d12 : D 12 = some 43 := by rw [<- hD]; rfl
    have d13 : D 13 = some 44 := by rw [<- hD]; rfl
    have d14 : D 14 = some 45 := by rw [<- hD]; rfl
    have r0 : ∀ v w, R 0 v w = (v = .pointer (some ⟨rb, 0, none⟩)) := fun v w => by rw [hR]; rfl
    have r1 : ∀ v w, R 1 v w = (v = .pointer (some ⟨rb, 0, none⟩)) := fun v w => by rw [hR]; rfl
    have r2 : ∀ v w, R 2 v w = (v = .int .i64 at0) := fun v w => by rw [hR]; rfl
    have r3 : ∀ v w, R 3 v w = (v = .int .i64 ta) := fun v w => by rw [hR]; rfl
    have r4 : ∀ v w, R 4 v w = (v = .pointer (some ⟨rb, 0, none⟩)) := fun v w => by rw [hR]; rfl
    have r5 : ∀ v w, R 5 v w = (v = .pointer (some ⟨rb, 1, none⟩)) := fun v w => by rw [hR]; rfl
    have r6 : ∀ v w, R 6 v w = (v = .int .i64 at1) := fun v w => by rw [hR]; rfl
    have r7 : ∀ v w, R 7 v w = (v = .int .i64 tb) := fun v w => by rw [hR]; rfl
    have r8 : ∀ v w, R 8 v w = (v = .pointer (some ⟨rb, 0, none⟩)) := fun v w => by rw [hR]; rfl
    have r9 : ∀ v w, R 9 v w = (v = .pointer (some ⟨rb, 2, none⟩)) := fun v w => by rw [hR]; rfl
    have r10 : ∀ v w, R 10 v w = (v = .int .i64 at2) := fun v w => by rw [hR]; rfl
    have r11 : ∀ v w, R 11 v w = (v = .int .i64 tc) := fun v w => by rw [hR]; rfl
    have r12 : ∀ v w, R 12 v w = (v = .agg #[.int .i64 ta, .int .i64 tb, .int .i64 tc]) := fun v w => by rw [hR]; rfl
    have r13 : ∀ v w, R 13 v w = (v = .agg #[.int .i64 ua, .int .i64 ub, .int .i64 uc, .int .i64 ud]) := fun v w => by rw [hR]; rfl
    have r14 : ∀ v w, R 14 v w = (v = .agg #[.int .i64 ta, .int .i64 tb, .int .i64 tc, .int .i64 ua, .int .i64 ub, .int .i64 uc, .int .i64 ud]) := fun v w => by rw [hR]; rfl
    have r15 : ∀ v w, R 15 v w = (True) := fun v w => by rw [hR]; rfl
    have F1_ : ∀ j, D j ≠ some 1 := by rw [<- hD]; exact RV.dst_free (by kernel_rfl)
    have Z1_ : Z.tmps[1]? = some (.pointer (some ⟨rb, 0, none⟩)) := by rw [<- hZ]; rfl
    have F2_ : ∀ j, D j ≠ some 2 := by rw [<- hD]; exact RV.dst_free (by kernel_rfl)
    have Z2_ : Z.tmps[2]? = some (.pointer (some ⟨ob, 0, none⟩)) := by rw [<- hZ]; rfl
    have F4_ : ∀ j, D j ≠ some 4 := by rw [<- hD]; exact RV.dst_free (by kernel_rfl)
    have Z4_ : Z.tmps[4]? = some (.pointer (some ⟨b3, 0, none⟩)) := by rw [<- hZ]; rfl
    have K : ∀ j v w w', R j v w -> R j v w' := by rw [hR]; intro j v w w' h; exact h
    clear hD hWA hZ hR
    refine RV.cc 0 (RV.dp (fun γ v L w hl h => ⟨h.1, h.2.1, h.2.2.1, by rw [RV.mn (L := L) (i := 0) (j := 15) (by decide)]; exact h.2.2.2⟩) (fun γ L a w hH hl hA => by have e0 := ((hH.rest 1 F1_).trans Z1_); exact ⟨.pointer (some ⟨rb, 0, none⟩), by simp [execOp, go_sem, e0], (r0 _ _).mpr rfl⟩)) ?_
    refine RV.cc 1 (RV.dp (fun γ v L w hl h => ⟨h.1, h.2.1, h.2.2.1, by rw [RV.mn (L := L) (i := 1) (j := 15) (by decide)]; exact h.2.2.2⟩) (fun γ L a w hH hl hA => by have e0 := hH.got d0 r0 (hA ⟨0, .data⟩ (by simp) rfl); exact ⟨.pointer (some ⟨rb, 0, none⟩), by simp [execOp, go_sem, e0], (r1 _ _).mpr rfl⟩)) ?_
    refine RV.cc 2 (RV.dp (fun γ v L w hl h => ⟨h.1, h.2.1, h.2.2.1, by rw [RV.mn (L := L) (i := 2) (j := 15) (by decide)]; exact h.2.2.2⟩) (fun γ L a w hH hl hA => by have e0 := hH.got d1 r1 (hA ⟨1, .data⟩ (by simp) rfl); have wz9 := (hH.glob.2.1 0 _ rfl).1; exact ⟨.int .i64 at0, by simp [execOp, go_sem, e0, wz9], (r2 _ _).mpr rfl⟩)) ?_
    refine RV.cc 3 (RV.dc (fun γ L a w hH hl hA => by have e0 := hH.got d2 r2 (hA ⟨2, .data⟩ (by simp) rfl); refine ⟨62, #[.int .i64 at0, .int .i64 4398046511104], by simp [go_sem, e0], Calls.mono (HA0.out w) ?_⟩; rintro e w2 ⟨rfl, rfl⟩; exact ⟨_, rfl, (r3 _ _).mpr rfl, fun j v _ h => K j v _ _ h, hH.glob.1, hH.glob.2.1, hH.glob.2.2.1, by rw [RV.mn (L := L) (i := 3) (j := 15) (by decide)]; exact hH.glob.2.2.2⟩)) ?_
    refine RV.cc 4 (RV.dp (fun γ v L w hl h => ⟨h.1, h.2.1, h.2.2.1, by rw [RV.mn (L := L) (i := 4) (j := 15) (by decide)]; exact h.2.2.2⟩) (fun γ L a w hH hl hA => by have e0 := ((hH.rest 1 F1_).trans Z1_); exact ⟨.pointer (some ⟨rb, 0, none⟩), by simp [execOp, go_sem, e0], (r4 _ _).mpr rfl⟩)) ?_
    refine RV.cc 5 (RV.dp (fun γ v L w hl h => ⟨h.1, h.2.1, h.2.2.1, by rw [RV.mn (L := L) (i := 5) (j := 15) (by decide)]; exact h.2.2.2⟩) (fun γ L a w hH hl hA => by have e0 := hH.got d4 r4 (hA ⟨4, .data⟩ (by simp) rfl); exact ⟨.pointer (some ⟨rb, 1, none⟩), by simp [execOp, go_sem, e0], (r5 _ _).mpr rfl⟩)) ?_
    refine RV.cc 6 (RV.dp (fun γ v L w hl h => ⟨h.1, h.2.1, h.2.2.1, by rw [RV.mn (L := L) (i := 6) (j := 15) (by decide)]; exact h.2.2.2⟩) (fun γ L a w hH hl hA => by have e0 := hH.got d5 r5 (hA ⟨5, .data⟩ (by simp) rfl); have wz9 := (hH.glob.2.1 1 _ rfl).1; exact ⟨.int .i64 at1, by simp [execOp, go_sem, e0, wz9], (r6 _ _).mpr rfl⟩)) ?_
    refine RV.cc 7 (RV.dc (fun γ L a w hH hl hA => by have e0 := hH.got d6 r6 (hA ⟨6, .data⟩ (by simp) rfl); refine ⟨62, #[.int .i64 at1, .int .i64 4398046511104], by simp [go_sem, e0], Calls.mono (HA1.out w) ?_⟩; rintro e w2 ⟨rfl, rfl⟩; exact ⟨_, rfl, (r7 _ _).mpr rfl, fun j v _ h => K j v _ _ h, hH.glob.1, hH.glob.2.1, hH.glob.2.2.1, by rw [RV.mn (L := L) (i := 7) (j := 15) (by decide)]; exact hH.glob.2.2.2⟩)) ?_
    refine RV.cc 8 (RV.dp (fun γ v L w hl h => ⟨h.1, h.2.1, h.2.2.1, by rw [RV.mn (L := L) (i := 8) (j := 15) (by decide)]; exact h.2.2.2⟩) (fun γ L a w hH hl hA => by have e0 := ((hH.rest 1 F1_).trans Z1_); exact ⟨.pointer (some ⟨rb, 0, none⟩), by simp [execOp, go_sem, e0], (r8 _ _).mpr rfl⟩)) ?_
    refine RV.cc 9 (RV.dp (fun γ v L w hl h => ⟨h.1, h.2.1, h.2.2.1, by rw [RV.mn (L := L) (i := 9) (j := 15) (by decide)]; exact h.2.2.2⟩) (fun γ L a w hH hl hA => by have e0 := hH.got d8 r8 (hA ⟨8, .data⟩ (by simp) rfl); exact ⟨.pointer (some ⟨rb, 2, none⟩), by simp [execOp, go_sem, e0], (r9 _ _).mpr rfl⟩)) ?_
    refine RV.cc 10 (RV.dp (fun γ v L w hl h => ⟨h.1, h.2.1, h.2.2.1, by rw [RV.mn (L := L) (i := 10) (j := 15) (by decide)]; exact h.2.2.2⟩) (fun γ L a w hH hl hA => by have e0 := hH.got d9 r9 (hA ⟨9, .data⟩ (by simp) rfl); have wz9 := (hH.glob.2.1 2 _ rfl).1; exact ⟨.int .i64 at2, by simp [execOp, go_sem, e0, wz9], (r10 _ _).mpr rfl⟩)) ?_
    refine RV.cc 11 (RV.dc (fun γ L a w hH hl hA => by have e0 := hH.got d10 r10 (hA ⟨10, .data⟩ (by simp) rfl); refine ⟨62, #[.int .i64 at2, .int .i64 4398046511104], by simp [go_sem, e0], Calls.mono (HA2.out w) ?_⟩; rintro e w2 ⟨rfl, rfl⟩; exact ⟨_, rfl, (r11 _ _).mpr rfl, fun j v _ h => K j v _ _ h, hH.glob.1, hH.glob.2.1, hH.glob.2.2.1, by rw [RV.mn (L := L) (i := 11) (j := 15) (by decide)]; exact hH.glob.2.2.2⟩)) ?_
    refine RV.cc 12 (RV.dp (fun γ v L w hl h => ⟨h.1, h.2.1, h.2.2.1, by rw [RV.mn (L := L) (i := 12) (j := 15) (by decide)]; exact h.2.2.2⟩) (fun γ L a w hH hl hA => by have e0 := hH.got d3 r3 (hA ⟨3, .data⟩ (by simp) rfl); have e1 := hH.got d7 r7 (hA ⟨7, .data⟩ (by simp) rfl); have e2 := hH.got d11 r11 (hA ⟨11, .data⟩ (by simp) rfl); exact ⟨.agg #[.int .i64 ta, .int .i64 tb, .int .i64 tc], by simp [execOp, go_sem, e0, e1, e2], (r12 _ _).mpr rfl⟩)) ?_
    refine RV.cc 13 (RV.dp (fun γ v L w hl h => ⟨h.1, h.2.1, h.2.2.1, by rw [RV.mn (L := L) (i := 13) (j := 15) (by decide)]; exact h.2.2.2⟩) (fun γ L a w hH hl hA => by have e0 := ((hH.rest 4 F4_).trans Z4_); have wz0 := (hH.glob.2.2.1 0 _ rfl).1; have wz1 := (hH.glob.2.2.1 1 _ rfl).1; have wz2 := (hH.glob.2.2.1 2 _ rfl).1; have wz3 := (hH.glob.2.2.1 3 _ rfl).1; exact ⟨.agg #[.int .i64 ua, .int .i64 ub, .int .i64 uc, .int .i64 ud], by simp [execOp, go_sem, e0, wz0, wz1, wz2, wz3], (r13 _ _).mpr rfl⟩)) ?_
    refine RV.cc 14 (RV.dp (fun γ v L w hl h => ⟨h.1, h.2.1, h.2.2.1, by rw [RV.mn (L := L) (i := 14) (j := 15) (by decide)]; exact h.2.2.2⟩) (fun γ L a w hH hl hA => by have e0 := hH.got d12 r12 (hA ⟨12, .data⟩ (by simp) rfl); have e1 := hH.got d13 r13 (hA ⟨13, .data⟩ (by simp) rfl); exact ⟨.agg #[.int .i64 ta, .int .i64 tb, .int .i64 tc, .int .i64 ua, .int .i64 ub, .int .i64 uc, .int .i64 ud], by simp [execOp, go_sem, e0, e1], (r14 _ _).mpr rfl⟩)) ?_
    refine RV.cc 15 (RV.does_store (fun γ L a w hH hl hA => by have e0 := ((hH.rest 2 F2_).trans Z2_); have e1 := hH.got d14 r14 (hA ⟨14, .data⟩ (by simp) rfl); have hG := hH.glob; rw [hl] at hG; have wz0 := hG.2.2.2 0 _ rfl; have wz1 := hG.2.2.2 1 _ rfl; have wz2 := hG.2.2.2 2 _ rfl; have wz3 := hG.2.2.2 3 _ rfl; have wz4 := hG.2.2.2 4 _ rfl; have wz5 := hG.2.2.2 5 _ rfl; have wz6 := hG.2.2.2 6 _ rfl; refine ⟨(((((((w.setCell ⟨ob, 0, none⟩ (.int .i64 ta)).setCell ⟨ob, 1, none⟩ (.int .i64 tb)).setCell ⟨ob, 2, none⟩ (.int .i64 tc)).setCell ⟨ob, 3, none⟩ (.int .i64 ua)).setCell ⟨ob, 4, none⟩ (.int .i64 ub)).setCell ⟨ob, 5, none⟩ (.int .i64 uc)).setCell ⟨ob, 6, none⟩ (.int .i64 ud)), by simp [execOp, go_sem, e0, e1, wz0.1, wz0.2, wz1.1, wz1.2, wz2.1, wz2.2, wz3.1, wz3.2, wz4.1, wz4.2, wz5.1, wz5.2, wz6.1, wz6.2], (r15 _ _).mpr trivial, fun j v _ h => K j v _ _ h, (((((((hG.1.setCell hob _).setCell hob _).setCell hob _).setCell hob _).setCell hob _).setCell hob _).setCell hob _), (((((((hG.2.1.apart hro 0 _).apart hro 1 _).apart hro 2 _).apart hro 3 _).apart hro 4 _).apart hro 5 _).apart hro 6 _), (((((((hG.2.2.1.apart hbo 0 _).apart hbo 1 _).apart hbo 2 _).apart hbo 3 _).apart hbo 4 _).apart hbo 5 _).apart hbo 6 _), ?_⟩; rw [RV.more_self]; exact (Cells.set (Cells.set (Cells.set (Cells.set (Cells.set (Cells.set (Cells.set hG.2.2.2 0 (.int .i64 ta) (by simp)) 1 (.int .i64 tb) (by simp)) 2 (.int .i64 tc) (by simp)) 3 (.int .i64 ua) (by simp)) 4 (.int .i64 ub) (by simp)) 5 (.int .i64 uc) (by simp)) 6 (.int .i64 ud) (by simp)))) ?_
    exact RV.AllDo.nil
   ·intro γ a5 w5 L9 hL hLo hH
    have ha := RV.held_act hH hL (by kernel_rfl) (by kernel_rfl)
    have hG := hH.glob
    rw [hL 15 (by decide)] at hG
    rw [ha]
    clear ha hH hL hLo
    simp only [RV.putAll, Act.put, List.setIfInBounds_toArray, List.set_cons_zero, List.set_cons_succ, Nat.zero_add, Nat.reduceAdd]
    have HB5 : Hid _ := hG.1
    have C5 : Cells w5 ob [.int .i64 ta, .int .i64 tb, .int .i64 tc, .int .i64 ua, .int .i64 ub, .int .i64 uc, .int .i64 ud] := hG.2.2.2
    have z0_ := (C5 0 _ rfl).1
    have z1_ := (C5 1 _ rfl).1
    have z2_ := (C5 2 _ rfl).1
    have z3_ := (C5 3 _ rfl).1
    have z4_ := (C5 4 _ rfl).1
    have z5_ := (C5 5 _ rfl).1
    have z6_ := (C5 6 _ rfl).1
    clear hG C5
    go_wp2
    exact bodyPost_ret (v := .agg #[.int .i64 ta, .int .i64 tb, .int .i64 tc, .int .i64 ua, .int .i64 ub, .int .i64 uc, .int .i64 ud]) (by simp [results, Try.results37, go_sem, z0_, z1_, z2_, z3_, z4_, z5_, z6_]) rfl ⟨⟨ta, tb, tc⟩, ⟨ua, ub, uc, ud⟩, rfl, HT.out, HQ9.out, HB5.out⟩
end
section
open Go.RowKit Go.Shelf
structure Came (t : Pt) (q : Q4) (P A E P2 A2 E2 : List Pt) : Prop where
 p : P2 = P.map ((rowsM q).ptV t)
 a : A2 = (rowsM q).dirs A
 e : E2 = (rowsM q).dirs E
 len : P2.length = P.length
 near : ∀ p ∈ P2, p.inB 8388608 = true
theorem Three.fill {w0 W : World} {vp va ve : Value} {P A E : List Pt} {b : Nat} {cs : Array Value} (h : Three w0 W vp va ve P A E) (hb : w0.heap.size <= b) (hx : W.heap[b]? = some (.cells cs 24 (0, 0))) (v0 v1 v2 v3 : Value) : Three w0 (set4 W b v0 v1 v2 v3) vp va ve P A E := by
 have hr : ∀ {u : Value} {n : Nat} {xs : List Value}, W.ownsRow w0.heap.size 26 3 u n xs -> u.ownBlock ≠ some b := fun h9 e => by
  rcases h9.2 with ⟨rfl, _⟩ | ⟨g, cap, cur, rfl, _, hgb, _⟩
  ·cases e
  ·have : g = b := by simpa [Value.ownBlock] using e
   subst this
   rw [hx] at hgb
   simp at hgb
 exact h.set hb (hr h.rp) (hr h.ra) (hr h.re) _ _ _ _
theorem Three.up {w0 w1 W : World} {vp va ve : Value} {P A E : List Pt} (h : Three w1 W vp va ve P A E) (hb : Below w0.heap.size w0 w1) : Three w0 W vp va ve P A E :=
 ⟨own_le h.rp hb.size, own_le h.ra hb.size, own_le h.re hb.size, h.pa, h.pe, h.ae, hb.trans (h.below.mono hb.size)⟩
def cp0 : Value -> Value
 | .tuple vs => vs.getD 0 undef
 | _ => undef
structure SG (X : World) (sr : Int) (Ps As Es : List Pt) (g2 g3 g4 g5 g7 : Value) (l2 l3 l4 l5 l7 l8 : Bool) (w : World) : Prop where
 be : Below X.heap.size X w
 t3 : l3 = true -> ∃ (P2 A2 E2 : List Pt) (vp va ve : Value) (t : Pt) (q : Q4), g3 = .tuple #[.agg #[vp, va, ve, .int .i64 sr], .bool true] /\ Three X w vp va ve P2 A2 E2 /\ Came t q Ps As Es P2 A2 E2
 m4 : l4 = true -> g4 = g3
 m5 : l5 = true -> g5 = cp0 g3
 pd : l7 = true -> ∃ b cs, g7 = .pointer (some ⟨b, 0, none⟩) /\ X.heap.size <= b /\ w.heap[b]? = some (.cells cs 24 (0, 0)) /\ cs.size = 4 /\ (l8 = true -> l3 = true /\ ∀ vp va ve, g3 = .tuple #[.agg #[vp, va, ve, .int .i64 sr], .bool true] -> cs = #[vp, va, ve, .int .i64 sr])
section
variable {X w w' : World} {sr : Int} {Ps As Es : List Pt} {g2 g3 g4 g5 g7 : Value} {l2 l3 l4 l5 l7 l8 : Bool}
theorem SG.step (h : SG X sr Ps As Es g2 g3 g4 g5 g7 l2 l3 l4 l5 l7 l8 w) (hb : Below w.heap.size w w') : SG X sr Ps As Es g2 g3 g4 g5 g7 l2 l3 l4 l5 l7 l8 w' := by
 refine ⟨b_step h.be hb, fun e => ?_, h.m4, h.m5, fun e => ?_⟩
 ·obtain ⟨P2, A2, E2, vp, va, ve, t, q, x1, x2, x3⟩ := h.t3 e
  exact ⟨P2, A2, E2, vp, va, ve, t, q, x1, x2.step hb, x3⟩
 ·obtain ⟨b, cs, x1, x2, x3, x4, x5⟩ := h.pd e
  exact ⟨b, cs, x1, x2, (hb.block b (Array.getElem?_eq_some_iff.1 x3).1).trans x3, x4, x5⟩
theorem SG.got (h : SG X sr Ps As Es g2 g3 g4 g5 g7 l2 l3 l4 l5 l7 l8 w) (h4 : l4 = false) (h5 : l5 = false) (h8 : l8 = false) {P2 A2 E2 : List Pt} {vp va ve : Value} {t : Pt} {q : Q4} (hT : Three w w' vp va ve P2 A2 E2) (hC : Came t q Ps As Es P2 A2 E2) :
  SG X sr Ps As Es g2 (.tuple #[.agg #[vp, va, ve, .int .i64 sr], .bool true]) g4 g5 g7 l2 true l4 l5 l7 l8 w' := by
 have h9 := h.step hT.below
 refine ⟨h9.be, fun _ => ⟨P2, A2, E2, vp, va, ve, t, q, rfl, hT.up h.be, hC⟩, fun e => (by rw [h4] at e; cases e), fun e => (by rw [h5] at e; cases e), fun e => ?_⟩
 obtain ⟨b, cs, x1, x2, x3, x4, _⟩ := h9.pd e
 exact ⟨b, cs, x1, x2, x3, x4, fun e => (by rw [h8] at e; cases e)⟩
theorem SG.made (h : SG X sr Ps As Es g2 g3 g4 g5 g7 l2 l3 l4 l5 l7 l8 w) (h8 : l8 = false) : SG X sr Ps As Es g2 g3 g4 g5 (.pointer (some ⟨w.heap.size, 0, none⟩)) l2 l3 l4 l5 true l8 (w.alloc (.cells #[.slice none 0 0, .slice none 0 0, .slice none 0 0, .int .i64 0] 24)) := by
 have h9 := h.step (n_after w (.cells #[.slice none 0 0, .slice none 0 0, .slice none 0 0, .int .i64 0] 24))
 exact ⟨h9.be, h9.t3, h9.m4, h9.m5, fun _ => ⟨w.heap.size, _, rfl, h.be.size, heap_alloc_new _ _, rfl, fun e => (by rw [h8] at e; cases e)⟩⟩
theorem SG.fill (h : SG X sr Ps As Es g2 g3 g4 g5 g7 l2 true l4 l5 true l8 w) {b : Nat} {cs : Array Value} (e7 : g7 = .pointer (some ⟨b, 0, none⟩)) (hb : X.heap.size <= b) (hx : w.heap[b]? = some (.cells cs 24 (0, 0))) (hcs : cs.size = 4) {vp va ve : Value} (e3 : g3 = .tuple #[.agg #[vp, va, ve, .int .i64 sr], .bool true]) :
  SG X sr Ps As Es g2 g3 g4 g5 g7 l2 true l4 l5 true true (set4 w b vp va ve (.int .i64 sr)) := by
 obtain ⟨q0, q1, q2, q3, rfl⟩ := arr4' hcs
 refine ⟨set4_below h.be hb _ _ _ _, fun _ => ?_, h.m4, h.m5, fun _ => ⟨b, #[vp, va, ve, .int .i64 sr], e7, hb, ?_, rfl, fun _ => ⟨rfl, fun vp' va' ve' e' => ?_⟩⟩⟩
 ·obtain ⟨P2, A2, E2, vp, va, ve, t, q, x1, x2, x3⟩ := h.t3 rfl
  exact ⟨P2, A2, E2, vp, va, ve, t, q, x1, x2.fill hb hx _ _ _ _, x3⟩
 ·have y0 := Go.heap_setCell_same w b 0 _ _ vp hx
  have y1 := Go.heap_setCell_same _ b 1 _ _ va y0
  have y2 := Go.heap_setCell_same _ b 2 _ _ ve y1
  have y3 := Go.heap_setCell_same _ b 3 _ _ (.int .i64 sr) y2
  simpa [set4] using y3
 ·rw [e3] at e'
  simp only [Value.tuple.injEq, Array.mk.injEq, List.cons.injEq, Value.agg.injEq, and_true] at e'
  obtain ⟨rfl, rfl, rfl⟩ := e'
  rfl
end
end
end Go.Proofs.Ytccdgpijjgeedaa
