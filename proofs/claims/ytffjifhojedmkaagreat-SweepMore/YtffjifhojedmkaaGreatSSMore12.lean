/- Raw poses made right. -/
import Derived.Test.YtffjifhojedmkaaGreatSSMore9
import Derived.Test.YtffjifhojedmkaaGreatSSMore5
import Derived.Test.YtffjifhojedmkaaGreatSSMore11
import Derived.Test.YtffjifhojedmkaaGreatSSMore4
set_option linter.unusedVariables false
namespace Go.Proofs.YtffjifhojedmkaaGreat
section
open Go.RowKit Go.Shelf Fx
theorem pick6_any (c n : Int) (w : World) (hc : -9223372036854775808 <= c /\ c <= 9223372036854775807) (hn : 0 < n) (hn' : n <= 9223372036854775807) :
  Calls Tryz.prog 105 #[.int .i64 c, .int .i64 n] w fun e w' => e = .returned (.int .i64 (pickZ c n)) /\ w' = w := by
 unfold pickZ
 by_cases h : c < 0
 ·have hb : 0 <= -(c + 1) := by omega
  have hb' : -(c + 1) <= 9223372036854775807 := by omega
  have hz : (n == 0) = false := beq_eq_false_iff_ne.2 (by omega)
  rw [if_pos h]
  go_enter Tryz.func105, Tryz.ntmps105
  go_wp2
  go_ret
  have e : (c + 1).tmod n = -(-(c + 1) % n) := by
   rw [<- Int.tmod_eq_emod_of_nonneg hb, Int.neg_tmod, Int.neg_neg]
  exact ⟨by rw [e, Int.neg_neg]; rfl, rfl⟩
 ·have hz : (n == 0) = false := beq_eq_false_iff_ne.2 (by omega)
  rw [if_neg h]
  go_enter Tryz.func105, Tryz.ntmps105
  go_wp2
  go_ret
  exact ⟨rfl, rfl⟩
def partZ (n m : Int) : Int := pickZ n (2 * m + 1) - m
theorem partZ_in (n : Int) {m : Int} (hm : 0 <= m) : -m <= partZ n m /\ partZ n m <= m := by
 have h1 := pickZ_lo n (n := 2 * m + 1) (by omega)
 have h2 := pickZ_hi n (n := 2 * m + 1) (by omega)
 unfold partZ; omega
set_option maxHeartbeats 1000000 in
theorem part6_any (n m : Int) (w : World) (hn : -9223372036854775808 <= n /\ n <= 9223372036854775807) (hm : 0 <= m /\ m <= 4611686018427387903) :
  Calls Tryz.prog 60 #[.int .i64 n, .int .i64 m] w fun e w' => e = .returned (.int .i64 (partZ n m)) /\ w' = w := by
 have HP : Hid _ := fun w' => pick6_any n (2 * m + 1) w' hn (by omega) (by omega)
 have h1 := pickZ_lo n (n := 2 * m + 1) (by omega)
 have h2 := pickZ_hi n (n := 2 * m + 1) (by omega)
 unfold partZ
 generalize pickZ n (2 * m + 1) = pz at *
 have e1 : IntKind.i64.wrap (2 * m) = 2 * m := by rw [IntKind.wrap_i64]; omega
 have e2 : IntKind.i64.wrap (2 * m + 1) = 2 * m + 1 := by rw [IntKind.wrap_i64]; omega
 have e3 : IntKind.i64.wrap (pz - m) = pz - m := by rw [IntKind.wrap_i64]; omega
 go_enter Tryz.func60, Tryz.ntmps60
 go_wp2_with (fail)
 refine Calls.mono (HP.out _) ?_
 rintro e w' ⟨rfl, rfl⟩
 go_wp2_with (fail)
 go_ret
 exact ⟨rfl, rfl⟩
def Q4.v (q : Q4) : Value := .agg #[.int .i64 q.w, .int .i64 q.x, .int .i64 q.y, .int .i64 q.z]
def wholeN (q : Q4) : Int := (norm [q.w, q.x, q.y, q.z]).getD 0
def wholeB (q : Q4) : Bool := wholeBad q.w q.x q.y q.z
def wholeQ (q : Q4) : Q4 := ⟨cond (wholeB q) 0 ((ratio q.w 4294967296 (wholeN q)).getD 0), cond (wholeB q) 0 ((ratio q.x 4294967296 (wholeN q)).getD 0), cond (wholeB q) 0 ((ratio q.y 4294967296 (wholeN q)).getD 0), cond (wholeB q) 0 ((ratio q.z 4294967296 (wholeN q)).getD 0)⟩
theorem whole6_any (b off : Nat) (f : Bool) (q : Q4) (W : World) (hc : W.cell? ⟨b, off, none⟩ = some (.bool f)) (hf : W.frozen? ⟨b, off, none⟩ = false) :
  Calls Tryz.prog 59 #[.pointer (some ⟨b, off, none⟩), q.v] W fun e W' => e = .returned (wholeQ q).v /\ Hid (After ⟨b, off, none⟩ (f || wholeB q) W W') := by
 refine Calls.mono (rvwhole_law b off f q.w q.x q.y q.z W hc hf) ?_
 rintro e W' ⟨v0, v1, v2, v3, g, rfl, SS, A⟩
 obtain ⟨rfl, rfl, rfl, rfl, rfl⟩ := SS.out
 exact ⟨rfl, A⟩
theorem whole6_is {q : Q4} (h : wholeB q = false) : WM.Whole (wholeQ q).w (wholeQ q).x (wholeQ q).y (wholeQ q).z := by
 have hn : 2147483648 <= wholeN q := by
  have h9 := h
  unfold wholeB wholeBad at h9
  simp only [Bool.or_eq_false_iff, decide_eq_false_iff_not] at h9
  have := h9.1
  unfold wholeN
  omega
 cases hx : norm [q.w, q.x, q.y, q.z] with
 | none => unfold wholeN at hn; rw [hx] at hn; simp at hn
 | some n =>
  have en : wholeN q = n := by unfold wholeN; rw [hx]; rfl
  rw [en] at hn
  obtain ⟨a, b, c, d, l, e1, e2, e3, e4, _, _, _, k1, k2, k3, k4, k5, k6⟩ := WM.whole_long hx hn
  unfold wholeQ
  rw [h, en, e1, e2, e3, e4]
  exact ⟨k1, k2, k3, k4, k5, k6⟩
set_option maxHeartbeats 8000000 in
set_option maxRecDepth 100000 in
theorem right6_any (at0 at1 at2 qa qb_ qc qd : Int) (w0 : World) (f0 : -9223372036854775808 <= at0 /\ at0 <= 9223372036854775807) (f1 : -9223372036854775808 <= at1 /\ at1 <= 9223372036854775807) (f2 : -9223372036854775808 <= at2 /\ at2 <= 9223372036854775807) (f3 : -9223372036854775808 <= qa /\ qa <= 9223372036854775807) (f4 : -9223372036854775808 <= qb_ /\ qb_ <= 9223372036854775807) (f5 : -9223372036854775808 <= qc /\ qc <= 9223372036854775807) (f6 : -9223372036854775808 <= qd /\ qd <= 9223372036854775807) :
  Calls Tryz.prog 24 #[.agg #[.int .i64 at0, .int .i64 at1, .int .i64 at2, .int .i64 qa, .int .i64 qb_, .int .i64 qc, .int .i64 qd]] w0 fun e W => ∃ (t : Pt) (q : Q4), e = .returned (poseV t q) /\ t.inB 4398046511104 = true /\ WM.Whole q.w q.x q.y q.z /\ Below w0.heap.size w0 W := by
 have HP0 : Hid _ := fun w' => part6_any qa 1099511627776 w' f3 (by decide)
 have HP1 : Hid _ := fun w' => part6_any qb_ 1099511627776 w' f4 (by decide)
 have HP2 : Hid _ := fun w' => part6_any qc 1099511627776 w' f5 (by decide)
 have HP3 : Hid _ := fun w' => part6_any qd 1099511627776 w' f6 (by decide)
 have HA0 : Hid _ := fun w' => part6_any at0 4398046511104 w' f0 (by decide)
 have HA1 : Hid _ := fun w' => part6_any at1 4398046511104 w' f1 (by decide)
 have HA2 : Hid _ := fun w' => part6_any at2 4398046511104 w' f2 (by decide)
 have HT : Hid (Pt.inB ⟨partZ at0 4398046511104, partZ at1 4398046511104, partZ at2 4398046511104⟩ 4398046511104 = true) := (Pt.inB_iff _ _).2 ⟨partZ_in _ (by decide), partZ_in _ (by decide), partZ_in _ (by decide)⟩
 generalize partZ at0 4398046511104 = ta at *
 generalize partZ at1 4398046511104 = tb at *
 generalize partZ at2 4398046511104 = tc at *
 generalize partZ qa 1099511627776 = pw at *
 generalize partZ qb_ 1099511627776 = px at *
 generalize partZ qc 1099511627776 = py at *
 generalize partZ qd 1099511627776 = pz at *
 have HW : Hid _ := fun (b : Nat) (w : World) (f : Bool) => whole6_any b 0 f ⟨pw, px, py, pz⟩ w
 have HI : Hid (wholeB ⟨pw, px, py, pz⟩ = false -> WM.Whole (wholeQ ⟨pw, px, py, pz⟩).w (wholeQ ⟨pw, px, py, pz⟩).x (wholeQ ⟨pw, px, py, pz⟩).y (wholeQ ⟨pw, px, py, pz⟩).z) := whole6_is
 generalize wholeQ ⟨pw, px, py, pz⟩ = vq at *
 generalize wholeB ⟨pw, px, py, pz⟩ = bd at *
 obtain ⟨vw, vx, vy, vz⟩ := vq
 unfold Q4.v at HW
 dsimp only at HW HI
 clear f0 f1 f2 f3 f4 f5 f6
 go_enter Tryz.func24, Tryz.ntmps24
 go_upto_region 2 with fail
 obtain ⟨V, hV⟩ : ∃ V : World, V = ((w0.alloc (.cells #[.int .i64 at0, .int .i64 at1, .int .i64 at2, .int .i64 qa, .int .i64 qb_, .int .i64 qc, .int .i64 qd] 31)).alloc (.cells #[.int .i64 0, .int .i64 0, .int .i64 0, .int .i64 0, .int .i64 0, .int .i64 0, .int .i64 0] 69)).alloc (.cells #[.bool false] 102) := ⟨_, rfl⟩
 obtain ⟨rb, hrb⟩ : ∃ b, b = w0.heap.size := ⟨_, rfl⟩
 obtain ⟨ob, hob'⟩ : ∃ b, b = w0.heap.size + 1 := ⟨_, rfl⟩
 obtain ⟨wb, hwb'⟩ : ∃ b, b = w0.heap.size + 1 + 1 := ⟨_, rfl⟩
 have hBV : Hid (Below w0.heap.size w0 V) := by show Below _ _ _; rw [hV]; exact b_step (b_step (n_after _ _) (n_after _ _)) (n_after _ _)
 have B1 : Hid (Cells V rb [.int .i64 at0, .int .i64 at1, .int .i64 at2, .int .i64 qa, .int .i64 qb_, .int .i64 qc, .int .i64 qd]) := by show Cells _ _ _; rw [hV, hrb]; exact ((Cells.new w0 [.int .i64 at0, .int .i64 at1, .int .i64 at2, .int .i64 qa, .int .i64 qb_, .int .i64 qc, .int .i64 qd] _).step (n_after _ _)).step (n_after _ _)
 have B3 : Hid (Cells V ob [.int .i64 0, .int .i64 0, .int .i64 0, .int .i64 0, .int .i64 0, .int .i64 0, .int .i64 0]) := by show Cells _ _ _; rw [hV, hob']; have h9 := (Cells.new (w0.alloc (.cells #[.int .i64 at0, .int .i64 at1, .int .i64 at2, .int .i64 qa, .int .i64 qb_, .int .i64 qc, .int .i64 qd] 31)) [.int .i64 0, .int .i64 0, .int .i64 0, .int .i64 0, .int .i64 0, .int .i64 0, .int .i64 0] 69).step (n_after _ (.cells #[.bool false] 102)); rw [World.size_alloc] at h9; exact h9
 have B2 : Hid (Cells V wb [.bool false]) := by show Cells _ _ _; rw [hV, hwb']; have h9 := Cells.new ((w0.alloc (.cells #[.int .i64 at0, .int .i64 at1, .int .i64 at2, .int .i64 qa, .int .i64 qb_, .int .i64 qc, .int .i64 qd] 31)).alloc (.cells #[.int .i64 0, .int .i64 0, .int .i64 0, .int .i64 0, .int .i64 0, .int .i64 0, .int .i64 0] 69)) [.bool false] 102; rw [World.size_alloc, World.size_alloc] at h9; exact h9
 have hVs : V.heap.size = w0.heap.size + 3 := by rw [hV]; simp
 rw [<- hV, <- hwb', <- hob', <- hrb]
 have hwb : w0.heap.size <= wb := by omega
 have hob : w0.heap.size <= ob := by omega
 have hrw : rb ≠ wb := by omega
 have how_ : ob ≠ wb := by omega
 have hro : rb ≠ ob := by omega
 have hwV : wb < V.heap.size := by omega
 have hrV : rb < V.heap.size := by omega
 have hoV : ob < V.heap.size := by omega
 clear hV hrb hob' hwb'
 have HW : Hid _ := HW.out wb
 go_cut [4] from 5 (fun s4 wx => ∃ b3 : Nat, s4 = .pointer (some ⟨b3, 0, none⟩) /\ Below w0.heap.size w0 wx /\ Cells wx rb [.int .i64 at0, .int .i64 at1, .int .i64 at2, .int .i64 qa, .int .i64 qb_, .int .i64 qc, .int .i64 qd] /\ Cells wx ob [.int .i64 0, .int .i64 0, .int .i64 0, .int .i64 0, .int .i64 0, .int .i64 0, .int .i64 0] /\ Cells wx b3 [.int .i64 vw, .int .i64 vx, .int .i64 vy, .int .i64 vz] /\ w0.heap.size <= b3 /\ rb ≠ b3 /\ ob ≠ b3 /\ wx.cell? ⟨wb, 0, none⟩ = some (.bool bd))
 case first =>
  refine RV.region_by (fun j v w => match j with | 0 => v = .pointer (some ⟨wb, 0, none⟩) | 1 => v = .pointer (some ⟨rb, 3, none⟩) | 2 => v = .pointer (some ⟨rb, 3, none⟩) | 3 => v = .int .i64 qa | 4 => v = .int .i64 pw | 5 => v = .pointer (some ⟨rb, 3, none⟩) | 6 => v = .pointer (some ⟨rb, 4, none⟩) | 7 => v = .int .i64 qb_ | 8 => v = .int .i64 px | 9 => v = .pointer (some ⟨rb, 3, none⟩) | 10 => v = .pointer (some ⟨rb, 5, none⟩) | 11 => v = .int .i64 qc | 12 => v = .int .i64 py | 13 => v = .pointer (some ⟨rb, 3, none⟩) | 14 => v = .pointer (some ⟨rb, 6, none⟩) | 15 => v = .int .i64 qd | 16 => v = .int .i64 pz | 17 => v = .agg #[.int .i64 pw, .int .i64 px, .int .i64 py, .int .i64 pz] | 18 => v = .agg #[.int .i64 vw, .int .i64 vx, .int .i64 vy, .int .i64 vz] | 19 => True | 20 => True | _ => True) (fun γ L w => Below w0.heap.size w0 w /\ Cells w rb [.int .i64 at0, .int .i64 at1, .int .i64 at2, .int .i64 qa, .int .i64 qb_, .int .i64 qc, .int .i64 qd] /\ Cells w wb [.bool (L 18 && bd)] /\ Cells w ob [.int .i64 0, .int .i64 0, .int .i64 0, .int .i64 0, .int .i64 0, .int .i64 0, .int .i64 0] /\ RV.Pend V 29 19 20 #[.int .i64 vw, .int .i64 vx, .int .i64 vy, .int .i64 vz] γ L w /\ V.heap.size <= w.heap.size) (by kernel_rfl) (by kernel_rfl) (by kernel_rfl) (by kernel_rfl) ?_ ?_ ?_
  ·have b9 : Below V.heap.size V V.drew := (Below.refl _ _).drew; exact ⟨b_step hBV.out b9, B1.out.step b9, B2.out.step b9, B3.out.step b9, RV.Pend.start rfl, Nat.le_refl _⟩
  ·generalize hD : dstOf _ = D
   generalize hWA : waitsFor _ = WA
   generalize hZ : Act.mk _ _ = Z
   refine RV.AllDo.name ?_
   intro R hR
   have d0 : D 0 = some 7 := by rw [<- hD]; rfl
   have d1 : D 1 = some 8 := by rw [<- hD]; rfl
   have d2 : D 2 = some 9 := by rw [<- hD]; rfl
   have d3 : D 3 = some 10 := by rw [<- hD]; rfl
   have d4 : D 4 = some 11 := by rw [<- hD]; rfl
   have d5 : D 5 = some 12 := by rw [<- hD]; rfl
   have d6 : D 6 = some 13 := by rw [<- hD]; rfl
   have d7 : D 7 = some 14 := by rw [<- hD]; rfl
   have d8 : D 8 = some 15 := by rw [<- hD]; rfl
   have d9 : D 9 = some 16 := by rw [<- hD]; rfl
   have d10 : D 10 = some 17 := by rw [<- hD]; rfl
   have d11 : D 11 = some 18 := by rw [<- hD]; rfl
   have d12 : D 12 = some 19 := by rw [<- hD]; rfl
   have d13 : D 13 = some 20 := by rw [<- hD]; rfl
   have d14 : D 14 = some 21 := by rw [<- hD]; rfl
   have d15 : D 15 = some 22 := by rw [<- hD]; rfl
   have d16 : D 16 = some 23 := by rw [<- hD]; rfl
   have d17 : D 17 = some 24 := by rw [<- hD]; rfl
   have d18 : D 18 = some 25 := by rw [<- hD]; rfl
   have d19 : D 19 = some 4 := by rw [<- hD]; rfl
   have r0 : ∀ v w, R 0 v w = (v = .pointer (some ⟨wb, 0, none⟩)) := fun v w => by rw [hR]; rfl
   have r1 : ∀ v w, R 1 v w = (v = .pointer (some ⟨rb, 3, none⟩)) := fun v w => by rw [hR]; rfl
   have r2 : ∀ v w, R 2 v w = (v = .pointer (some ⟨rb, 3, none⟩)) := fun v w => by rw [hR]; rfl
   have r3 : ∀ v w, R 3 v w = (v = .int .i64 qa) := fun v w => by rw [hR]; rfl
   have r4 : ∀ v w, R 4 v w = (v = .int .i64 pw) := fun v w => by rw [hR]; rfl
   have r5 : ∀ v w, R 5 v w = (v = .pointer (some ⟨rb, 3, none⟩)) := fun v w => by rw [hR]; rfl
   have r6 : ∀ v w, R 6 v w = (v = .pointer (some ⟨rb, 4, none⟩)) := fun v w => by rw [hR]; rfl
   have r7 : ∀ v w, R 7 v w = (v = .int .i64 qb_) := fun v w => by rw [hR]; rfl
   have r8 : ∀ v w, R 8 v w = (v = .int .i64 px) := fun v w => by rw [hR]; rfl
   have r9 : ∀ v w, R 9 v w = (v = .pointer (some ⟨rb, 3, none⟩)) := fun v w => by rw [hR]; rfl
   have r10 : ∀ v w, R 10 v w = (v = .pointer (some ⟨rb, 5, none⟩)) := fun v w => by rw [hR]; rfl
   have r11 : ∀ v w, R 11 v w = (v = .int .i64 qc) := fun v w => by rw [hR]; rfl
   have r12 : ∀ v w, R 12 v w = (v = .int .i64 py) := fun v w => by rw [hR]; rfl
   have r13 : ∀ v w, R 13 v w = (v = .pointer (some ⟨rb, 3, none⟩)) := fun v w => by rw [hR]; rfl
   have r14 : ∀ v w, R 14 v w = (v = .pointer (some ⟨rb, 6, none⟩)) := fun v w => by rw [hR]; rfl
   have r15 : ∀ v w, R 15 v w = (v = .int .i64 qd) := fun v w => by rw [hR]; rfl
   have r16 : ∀ v w, R 16 v w = (v = .int .i64 pz) := fun v w => by rw [hR]; rfl
   have r17 : ∀ v w, R 17 v w = (v = .agg #[.int .i64 pw, .int .i64 px, .int .i64 py, .int .i64 pz]) := fun v w => by rw [hR]; rfl
   have r18 : ∀ v w, R 18 v w = (v = .agg #[.int .i64 vw, .int .i64 vx, .int .i64 vy, .int .i64 vz]) := fun v w => by rw [hR]; rfl
   have r19 : ∀ v w, R 19 v w = (True) := fun v w => by rw [hR]; rfl
   have r20 : ∀ v w, R 20 v w = (True) := fun v w => by rw [hR]; rfl
   have F1_ : ∀ j, D j ≠ some 1 := by rw [<- hD]; exact RV.dst_free (by kernel_rfl)
   have Z1_ : Z.tmps[1]? = some (.pointer (some ⟨rb, 0, none⟩)) := by rw [<- hZ]; rfl
   have F3_ : ∀ j, D j ≠ some 3 := by rw [<- hD]; exact RV.dst_free (by kernel_rfl)
   have Z3_ : Z.tmps[3]? = some (.pointer (some ⟨wb, 0, none⟩)) := by rw [<- hZ]; rfl
   have K : ∀ j v w w', R j v w -> R j v w' := by rw [hR]; intro j v w w' h; exact h
   have A_20_19 : WA 20 19 := by rw [<- hWA]; exact ⟨_, rfl, ⟨19, .data⟩, by simp, rfl, rfl⟩
   clear hD hWA hZ hR
   refine RV.cc 0 (RV.dp (fun γ v L w hl h => ⟨h.1, h.2.1, by rw [RV.mn (L := L) (i := 0) (j := 18) (by decide)]; exact h.2.2.1, h.2.2.2.1, h.2.2.2.2.1.other v (by decide) (by decide), h.2.2.2.2.2⟩) (fun γ L a w hH hl hA => by have e0 := ((hH.rest 3 F3_).trans Z3_); exact ⟨.pointer (some ⟨wb, 0, none⟩), by simp [execOp, go_sem, e0], (r0 _ _).mpr rfl⟩)) ?_
   refine RV.cc 1 (RV.dp (fun γ v L w hl h => ⟨h.1, h.2.1, by rw [RV.mn (L := L) (i := 1) (j := 18) (by decide)]; exact h.2.2.1, h.2.2.2.1, h.2.2.2.2.1.other v (by decide) (by decide), h.2.2.2.2.2⟩) (fun γ L a w hH hl hA => by have e0 := ((hH.rest 1 F1_).trans Z1_); exact ⟨.pointer (some ⟨rb, 3, none⟩), by simp [execOp, go_sem, e0], (r1 _ _).mpr rfl⟩)) ?_
   refine RV.cc 2 (RV.dp (fun γ v L w hl h => ⟨h.1, h.2.1, by rw [RV.mn (L := L) (i := 2) (j := 18) (by decide)]; exact h.2.2.1, h.2.2.2.1, h.2.2.2.2.1.other v (by decide) (by decide), h.2.2.2.2.2⟩) (fun γ L a w hH hl hA => by have e0 := hH.got d1 r1 (hA ⟨1, .data⟩ (by simp) rfl); exact ⟨.pointer (some ⟨rb, 3, none⟩), by simp [execOp, go_sem, e0], (r2 _ _).mpr rfl⟩)) ?_
   refine RV.cc 3 (RV.dp (fun γ v L w hl h => ⟨h.1, h.2.1, by rw [RV.mn (L := L) (i := 3) (j := 18) (by decide)]; exact h.2.2.1, h.2.2.2.1, h.2.2.2.2.1.other v (by decide) (by decide), h.2.2.2.2.2⟩) (fun γ L a w hH hl hA => by have e0 := hH.got d2 r2 (hA ⟨2, .data⟩ (by simp) rfl); have wz9 := (hH.glob.2.1 3 _ rfl).1; exact ⟨.int .i64 qa, by simp [execOp, go_sem, e0, wz9], (r3 _ _).mpr rfl⟩)) ?_
   refine RV.cc 4 (RV.dc (fun γ L a w hH hl hA => by have e0 := hH.got d3 r3 (hA ⟨3, .data⟩ (by simp) rfl); refine ⟨60, #[.int .i64 qa, .int .i64 1099511627776], by simp [go_sem, e0], Calls.mono (HP0.out w) ?_⟩; rintro e w2 ⟨rfl, rfl⟩; exact ⟨_, rfl, (r4 _ _).mpr rfl, fun j v _ h => K j v _ _ h, hH.glob.1, hH.glob.2.1, by rw [RV.mn (L := L) (i := 4) (j := 18) (by decide)]; exact hH.glob.2.2.1, hH.glob.2.2.2.1, hH.glob.2.2.2.2.1.other _ (by decide) (by decide), hH.glob.2.2.2.2.2⟩)) ?_
   refine RV.cc 5 (RV.dp (fun γ v L w hl h => ⟨h.1, h.2.1, by rw [RV.mn (L := L) (i := 5) (j := 18) (by decide)]; exact h.2.2.1, h.2.2.2.1, h.2.2.2.2.1.other v (by decide) (by decide), h.2.2.2.2.2⟩) (fun γ L a w hH hl hA => by have e0 := ((hH.rest 1 F1_).trans Z1_); exact ⟨.pointer (some ⟨rb, 3, none⟩), by simp [execOp, go_sem, e0], (r5 _ _).mpr rfl⟩)) ?_
   refine RV.cc 6 (RV.dp (fun γ v L w hl h => ⟨h.1, h.2.1, by rw [RV.mn (L := L) (i := 6) (j := 18) (by decide)]; exact h.2.2.1, h.2.2.2.1, h.2.2.2.2.1.other v (by decide) (by decide), h.2.2.2.2.2⟩) (fun γ L a w hH hl hA => by have e0 := hH.got d5 r5 (hA ⟨5, .data⟩ (by simp) rfl); exact ⟨.pointer (some ⟨rb, 4, none⟩), by simp [execOp, go_sem, e0], (r6 _ _).mpr rfl⟩)) ?_
   refine RV.cc 7 (RV.dp (fun γ v L w hl h => ⟨h.1, h.2.1, by rw [RV.mn (L := L) (i := 7) (j := 18) (by decide)]; exact h.2.2.1, h.2.2.2.1, h.2.2.2.2.1.other v (by decide) (by decide), h.2.2.2.2.2⟩) (fun γ L a w hH hl hA => by have e0 := hH.got d6 r6 (hA ⟨6, .data⟩ (by simp) rfl); have wz9 := (hH.glob.2.1 4 _ rfl).1; exact ⟨.int .i64 qb_, by simp [execOp, go_sem, e0, wz9], (r7 _ _).mpr rfl⟩)) ?_
   refine RV.cc 8 (RV.dc (fun γ L a w hH hl hA => by have e0 := hH.got d7 r7 (hA ⟨7, .data⟩ (by simp) rfl); refine ⟨60, #[.int .i64 qb_, .int .i64 1099511627776], by simp [go_sem, e0], Calls.mono (HP1.out w) ?_⟩; rintro e w2 ⟨rfl, rfl⟩; exact ⟨_, rfl, (r8 _ _).mpr rfl, fun j v _ h => K j v _ _ h, hH.glob.1, hH.glob.2.1, by rw [RV.mn (L := L) (i := 8) (j := 18) (by decide)]; exact hH.glob.2.2.1, hH.glob.2.2.2.1, hH.glob.2.2.2.2.1.other _ (by decide) (by decide), hH.glob.2.2.2.2.2⟩)) ?_
   refine RV.cc 9 (RV.dp (fun γ v L w hl h => ⟨h.1, h.2.1, by rw [RV.mn (L := L) (i := 9) (j := 18) (by decide)]; exact h.2.2.1, h.2.2.2.1, h.2.2.2.2.1.other v (by decide) (by decide), h.2.2.2.2.2⟩) (fun γ L a w hH hl hA => by have e0 := ((hH.rest 1 F1_).trans Z1_); exact ⟨.pointer (some ⟨rb, 3, none⟩), by simp [execOp, go_sem, e0], (r9 _ _).mpr rfl⟩)) ?_
   refine RV.cc 10 (RV.dp (fun γ v L w hl h => ⟨h.1, h.2.1, by rw [RV.mn (L := L) (i := 10) (j := 18) (by decide)]; exact h.2.2.1, h.2.2.2.1, h.2.2.2.2.1.other v (by decide) (by decide), h.2.2.2.2.2⟩) (fun γ L a w hH hl hA => by have e0 := hH.got d9 r9 (hA ⟨9, .data⟩ (by simp) rfl); exact ⟨.pointer (some ⟨rb, 5, none⟩), by simp [execOp, go_sem, e0], (r10 _ _).mpr rfl⟩)) ?_
   refine RV.cc 11 (RV.dp (fun γ v L w hl h => ⟨h.1, h.2.1, by rw [RV.mn (L := L) (i := 11) (j := 18) (by decide)]; exact h.2.2.1, h.2.2.2.1, h.2.2.2.2.1.other v (by decide) (by decide), h.2.2.2.2.2⟩) (fun γ L a w hH hl hA => by have e0 := hH.got d10 r10 (hA ⟨10, .data⟩ (by simp) rfl); have wz9 := (hH.glob.2.1 5 _ rfl).1; exact ⟨.int .i64 qc, by simp [execOp, go_sem, e0, wz9], (r11 _ _).mpr rfl⟩)) ?_
   refine RV.cc 12 (RV.dc (fun γ L a w hH hl hA => by have e0 := hH.got d11 r11 (hA ⟨11, .data⟩ (by simp) rfl); refine ⟨60, #[.int .i64 qc, .int .i64 1099511627776], by simp [go_sem, e0], Calls.mono (HP2.out w) ?_⟩; rintro e w2 ⟨rfl, rfl⟩; exact ⟨_, rfl, (r12 _ _).mpr rfl, fun j v _ h => K j v _ _ h, hH.glob.1, hH.glob.2.1, by rw [RV.mn (L := L) (i := 12) (j := 18) (by decide)]; exact hH.glob.2.2.1, hH.glob.2.2.2.1, hH.glob.2.2.2.2.1.other _ (by decide) (by decide), hH.glob.2.2.2.2.2⟩)) ?_
   refine RV.cc 13 (RV.dp (fun γ v L w hl h => ⟨h.1, h.2.1, by rw [RV.mn (L := L) (i := 13) (j := 18) (by decide)]; exact h.2.2.1, h.2.2.2.1, h.2.2.2.2.1.other v (by decide) (by decide), h.2.2.2.2.2⟩) (fun γ L a w hH hl hA => by have e0 := ((hH.rest 1 F1_).trans Z1_); exact ⟨.pointer (some ⟨rb, 3, none⟩), by simp [execOp, go_sem, e0], (r13 _ _).mpr rfl⟩)) ?_
   refine RV.cc 14 (RV.dp (fun γ v L w hl h => ⟨h.1, h.2.1, by rw [RV.mn (L := L) (i := 14) (j := 18) (by decide)]; exact h.2.2.1, h.2.2.2.1, h.2.2.2.2.1.other v (by decide) (by decide), h.2.2.2.2.2⟩) (fun γ L a w hH hl hA => by have e0 := hH.got d13 r13 (hA ⟨13, .data⟩ (by simp) rfl); exact ⟨.pointer (some ⟨rb, 6, none⟩), by simp [execOp, go_sem, e0], (r14 _ _).mpr rfl⟩)) ?_
   refine RV.cc 15 (RV.dp (fun γ v L w hl h => ⟨h.1, h.2.1, by rw [RV.mn (L := L) (i := 15) (j := 18) (by decide)]; exact h.2.2.1, h.2.2.2.1, h.2.2.2.2.1.other v (by decide) (by decide), h.2.2.2.2.2⟩) (fun γ L a w hH hl hA => by have e0 := hH.got d14 r14 (hA ⟨14, .data⟩ (by simp) rfl); have wz9 := (hH.glob.2.1 6 _ rfl).1; exact ⟨.int .i64 qd, by simp [execOp, go_sem, e0, wz9], (r15 _ _).mpr rfl⟩)) ?_
   refine RV.cc 16 (RV.dc (fun γ L a w hH hl hA => by have e0 := hH.got d15 r15 (hA ⟨15, .data⟩ (by simp) rfl); refine ⟨60, #[.int .i64 qd, .int .i64 1099511627776], by simp [go_sem, e0], Calls.mono (HP3.out w) ?_⟩; rintro e w2 ⟨rfl, rfl⟩; exact ⟨_, rfl, (r16 _ _).mpr rfl, fun j v _ h => K j v _ _ h, hH.glob.1, hH.glob.2.1, by rw [RV.mn (L := L) (i := 16) (j := 18) (by decide)]; exact hH.glob.2.2.1, hH.glob.2.2.2.1, hH.glob.2.2.2.2.1.other _ (by decide) (by decide), hH.glob.2.2.2.2.2⟩)) ?_
   refine RV.cc 17 (RV.dp (fun γ v L w hl h => ⟨h.1, h.2.1, by rw [RV.mn (L := L) (i := 17) (j := 18) (by decide)]; exact h.2.2.1, h.2.2.2.1, h.2.2.2.2.1.other v (by decide) (by decide), h.2.2.2.2.2⟩) (fun γ L a w hH hl hA => by have e0 := hH.got d4 r4 (hA ⟨4, .data⟩ (by simp) rfl); have e1 := hH.got d8 r8 (hA ⟨8, .data⟩ (by simp) rfl); have e2 := hH.got d12 r12 (hA ⟨12, .data⟩ (by simp) rfl); have e3 := hH.got d16 r16 (hA ⟨16, .data⟩ (by simp) rfl); exact ⟨.agg #[.int .i64 pw, .int .i64 px, .int .i64 py, .int .i64 pz], by simp [execOp, go_sem, e0, e1, e2, e3], (r17 _ _).mpr rfl⟩)) ?_
   refine RV.cc 18 (RV.dc (fun γ L a w hH hl hA => by have e0 := hH.got d0 r0 (hA ⟨0, .data⟩ (by simp) rfl); have e1 := hH.got d17 r17 (hA ⟨17, .data⟩ (by simp) rfl); have hG := hH.glob; rw [hl] at hG; have wz := hG.2.2.1 0 _ rfl; refine ⟨59, #[.pointer (some ⟨wb, 0, none⟩), .agg #[.int .i64 pw, .int .i64 px, .int .i64 py, .int .i64 pz]], by simp [go_sem, e0, e1], Calls.mono (HW.out w _ wz.1 wz.2) ?_⟩; rintro e w2 ⟨rfl, A⟩; refine ⟨_, rfl, (r18 _ _).mpr rfl, fun j v _ h => K j v _ _ h, ?_⟩; have A9 := A.out; exact ⟨A9.on hG.1 hwb, hG.2.1.beside A9 hrw, by rw [RV.more_self]; exact Cells.after hG.2.2.1 A9, hG.2.2.2.1.beside A9 how_, (hG.2.2.2.2.1.after A9 hwV).other _ (by decide) (by decide), Nat.le_trans hG.2.2.2.2.2 A9.size⟩)) ?_
   refine RV.cc 19 (RV.does_step (fun γ L a w hH hl hA => by have hG := hH.glob; have h20 : L 20 = false := RV.ny hH A_20_19 hl; exact ⟨.pointer (some ⟨w.heap.size, 0, none⟩), w.alloc (.cells #[.int .i64 0, .int .i64 0, .int .i64 0, .int .i64 0] 29), by simp [execOp, go_sem], (r19 _ _).mpr trivial, fun j v _ h => K j v _ _ h, hG.1.alloc hG.1.size _, hG.2.1.step (n_after _ _), by rw [RV.mn (L := L) (i := 19) (j := 18) (by decide)]; exact hG.2.2.1.step (n_after _ _), hG.2.2.2.1.step (n_after _ _), RV.Pend.made _ rfl hG.2.2.2.2.2 h20 (by decide), by rw [World.size_alloc]; have h8 := hG.2.2.2.2.2; omega⟩)) ?_
   refine RV.cc 20 (RV.does_store (fun γ L a w hH hl hA => by have l0 : L 19 = true := hA ⟨19, .data⟩ (by simp) rfl; have e0 := hH.slot 19 4 d19 l0; have g0 := hH.holds 19 l0; rw [r19] at g0; have e1 := hH.got d18 r18 (hA ⟨18, .data⟩ (by simp) rfl); have hG := hH.glob; obtain ⟨b, cs, hb1, hb2, hb3, hb4, _⟩ := hG.2.2.2.2.1 l0; rw [hb1] at e0; obtain ⟨u0, u1, u2, u3, rfl⟩ := arr4' hb4; have wz0 : w.cell? ⟨b, 0, none⟩ = some u0 := (by simp [World.cell?, hb3]); have wz1 : w.cell? ⟨b, 1, none⟩ = some u1 := (by simp [World.cell?, hb3]); have wz2 : w.cell? ⟨b, 2, none⟩ = some u2 := (by simp [World.cell?, hb3]); have wz3 : w.cell? ⟨b, 3, none⟩ = some u3 := (by simp [World.cell?, hb3]); have zf : ∀ o, w.frozen? ⟨b, o, none⟩ = false := fun o => (by simp [World.frozen?, hb3]); have n1 : rb ≠ b := (by omega); have n2 : wb ≠ b := (by omega); have n3 : ob ≠ b := (by omega); have n4 : w0.heap.size <= b := (by omega); exact ⟨((((w.setCell ⟨b, 0, none⟩ (.int .i64 vw)).setCell ⟨b, 1, none⟩ (.int .i64 vx)).setCell ⟨b, 2, none⟩ (.int .i64 vy)).setCell ⟨b, 3, none⟩ (.int .i64 vz)), by simp [execOp, go_sem, e0, e1, wz0, wz1, wz2, wz3, zf], (r20 _ _).mpr trivial, fun j v _ h => K j v _ _ h, ((((hG.1.setCell n4 _).setCell n4 _).setCell n4 _).setCell n4 _), ((((hG.2.1.apart n1 0 _).apart n1 1 _).apart n1 2 _).apart n1 3 _), by rw [RV.mn (L := L) (i := 20) (j := 18) (by decide)]; exact ((((hG.2.2.1.apart n2 0 _).apart n2 1 _).apart n2 2 _).apart n2 3 _), ((((hG.2.2.2.1.apart n3 0 _).apart n3 1 _).apart n3 2 _).apart n3 3 _), RV.Pend.filled hb1 hb2 (by have q0 := Go.heap_setCell_same w b 0 _ _ (.int .i64 vw) hb3; have q1 := Go.heap_setCell_same _ b 1 _ _ (.int .i64 vx) q0; have q2 := Go.heap_setCell_same _ b 2 _ _ (.int .i64 vy) q1; have q3 := Go.heap_setCell_same _ b 3 _ _ (.int .i64 vz) q2; simpa using q3) (by decide) _, by have h8 := hG.2.2.2.2.2; simpa [World.setCell] using h8⟩)) ?_
   exact RV.AllDo.nil
  ·intro γ a5 w5 L9 hL hLo hH
   have ha := RV.held_act hH hL (by kernel_rfl) (by kernel_rfl)
   have hG := hH.glob
   rw [hL 18 (by decide)] at hG
   obtain ⟨b3, cs, hb1, hb2, hb3, _, hb5⟩ := hG.2.2.2.2.1 (hL 19 (by decide))
   rw [hb5 (hL 20 (by decide))] at hb3
   rw [ha]
   clear ha hH hL hLo hb5
   simp only [RV.putAll, Act.put, List.setIfInBounds_toArray, List.set_cons_zero, List.set_cons_succ, Nat.zero_add, Nat.reduceAdd]
   rw [hb1]
   have C3 : Cells w5 b3 [.int .i64 vw, .int .i64 vx, .int .i64 vy, .int .i64 vz] := fun i v e => ⟨by simp [World.cell?, hb3]; exact e, by simp [World.frozen?, hb3]⟩
   have HH : Hid (Below w0.heap.size w0 w5 /\ Cells w5 rb [.int .i64 at0, .int .i64 at1, .int .i64 at2, .int .i64 qa, .int .i64 qb_, .int .i64 qc, .int .i64 qd] /\ Cells w5 ob [.int .i64 0, .int .i64 0, .int .i64 0, .int .i64 0, .int .i64 0, .int .i64 0, .int .i64 0]) := ⟨hG.1, hG.2.1, hG.2.2.2.1⟩
   have fl := (hG.2.2.1 0 _ rfl).1
   have nrb : rb ≠ b3 := by omega
   have nob : ob ≠ b3 := by omega
   have nb4 : w0.heap.size <= b3 := by omega
   clear hG hb1 hb3
   go_wp2_with (fail)
   go_meet
   case rel => exact ⟨b3, rfl, HH.out.1, HH.out.2.1, HH.out.2.2, C3, nb4, nrb, nob, by simpa using fl⟩
 case rest =>
  obtain ⟨b3, rfl, k1, k2, k3, k4, nb4, nrb, nob, fl⟩ := hcut
  have hbo : b3 ≠ ob := fun e => nob e.symm
  have H1 : Hid _ := And.intro k1 (And.intro k2 (And.intro k3 k4))
  clear k1 k2 k3 k4 B1 B2 B3 hBV HP0 HP1 HP2 HP3 HW
  go_upto_if 29 with fail
  go_cut [] from 26 (fun wx => ∃ ua ub uc ud : Int, Hid (WM.Whole ua ub uc ud) /\ Below w0.heap.size w0 wx /\ Cells wx rb [.int .i64 at0, .int .i64 at1, .int .i64 at2, .int .i64 qa, .int .i64 qb_, .int .i64 qc, .int .i64 qd] /\ Cells wx ob [.int .i64 0, .int .i64 0, .int .i64 0, .int .i64 0, .int .i64 0, .int .i64 0, .int .i64 0] /\ Cells wx b3 [.int .i64 ua, .int .i64 ub, .int .i64 uc, .int .i64 ud])
  case first =>
   cases bd with
   | false =>
    go_wp2_with (fail)
    go_meet
    case rel => exact ⟨vw, vx, vy, vz, (by first | exact HI.out rfl | exact HI.out trivial), H1.out.1, H1.out.2.1, H1.out.2.2.1, H1.out.2.2.2⟩
   | true =>
    obtain ⟨k1, k2, k3, k4⟩ := H1.out
    have HN : Hid (Below w0.heap.size w0 (set4 wc b3 (.int .i64 4294967296) (.int .i64 0) (.int .i64 0) (.int .i64 0)) /\ Cells (set4 wc b3 (.int .i64 4294967296) (.int .i64 0) (.int .i64 0) (.int .i64 0)) rb [.int .i64 at0, .int .i64 at1, .int .i64 at2, .int .i64 qa, .int .i64 qb_, .int .i64 qc, .int .i64 qd] /\ Cells (set4 wc b3 (.int .i64 4294967296) (.int .i64 0) (.int .i64 0) (.int .i64 0)) ob [.int .i64 0, .int .i64 0, .int .i64 0, .int .i64 0, .int .i64 0, .int .i64 0, .int .i64 0] /\ Cells (set4 wc b3 (.int .i64 4294967296) (.int .i64 0) (.int .i64 0) (.int .i64 0)) b3 [.int .i64 4294967296, .int .i64 0, .int .i64 0, .int .i64 0]) :=
     ⟨set4_below k1 nb4 _ _ _ _, ((((Cells.apart k2 nrb 0 _).apart nrb 1 _).apart nrb 2 _).apart nrb 3 _), ((((Cells.apart k3 nob 0 _).apart nob 1 _).apart nob 2 _).apart nob 3 _), Cells.set4 k4 _ _ _ _⟩
    obtain ⟨z0, z0f⟩ := k4 0 _ rfl
    obtain ⟨z1, z1f⟩ := k4 1 _ rfl
    obtain ⟨z2, z2f⟩ := k4 2 _ rfl
    obtain ⟨z3, z3f⟩ := k4 3 _ rfl
    unfold set4 at HN
    clear k1 k2 k3 k4
    go_wp2_with (fail)
    go_meet
    case rel => exact ⟨4294967296, 0, 0, 0, (by unfold WM.Whole; decide : WM.Whole 4294967296 0 0 0), HN.out.1, HN.out.2.1, HN.out.2.2.1, HN.out.2.2.2⟩
  case rest =>
   obtain ⟨ua, ub, uc, ud, HQ9, k1, k2, k3, k4⟩ := hcut
   clear H1 fl HI
   go_upto_region 5 with fail
   obtain ⟨X, hX⟩ : ∃ X : World, X = wc := ⟨_, rfl⟩
   rw [<- hX] at k1 k2 k3 k4 ⊢
   clear hX
   refine RV.region_by (fun j v w => match j with | 0 => v = .pointer (some ⟨rb, 0, none⟩) | 1 => v = .pointer (some ⟨rb, 0, none⟩) | 2 => v = .int .i64 at0 | 3 => v = .int .i64 ta | 4 => v = .pointer (some ⟨rb, 0, none⟩) | 5 => v = .pointer (some ⟨rb, 1, none⟩) | 6 => v = .int .i64 at1 | 7 => v = .int .i64 tb | 8 => v = .pointer (some ⟨rb, 0, none⟩) | 9 => v = .pointer (some ⟨rb, 2, none⟩) | 10 => v = .int .i64 at2 | 11 => v = .int .i64 tc | 12 => v = .agg #[.int .i64 ta, .int .i64 tb, .int .i64 tc] | 13 => v = .agg #[.int .i64 ua, .int .i64 ub, .int .i64 uc, .int .i64 ud] | 14 => v = .agg #[.int .i64 ta, .int .i64 tb, .int .i64 tc, .int .i64 ua, .int .i64 ub, .int .i64 uc, .int .i64 ud] | 15 => True | _ => True) (fun γ L w => Below w0.heap.size w0 w /\ Cells w rb [.int .i64 at0, .int .i64 at1, .int .i64 at2, .int .i64 qa, .int .i64 qb_, .int .i64 qc, .int .i64 qd] /\ Cells w b3 [.int .i64 ua, .int .i64 ub, .int .i64 uc, .int .i64 ud] /\ Cells w ob (cond (L 15) [.int .i64 ta, .int .i64 tb, .int .i64 tc, .int .i64 ua, .int .i64 ub, .int .i64 uc, .int .i64 ud] [.int .i64 0, .int .i64 0, .int .i64 0, .int .i64 0, .int .i64 0, .int .i64 0, .int .i64 0])) (by kernel_rfl) (by kernel_rfl) (by kernel_rfl) (by kernel_rfl) ?_ ?_ ?_
   ·have b9 : Below X.heap.size X X.drew := (Below.refl _ _).drew; exact ⟨b_step k1 b9, Cells.step k2 b9, Cells.step k4 b9, Cells.step k3 b9⟩
   ·generalize hD : dstOf _ = D
    generalize hWA : waitsFor _ = WA
    generalize hZ : Act.mk _ _ = Z
    refine RV.AllDo.name ?_
    intro R hR
    have d0 : D 0 = some 31 := by rw [<- hD]; rfl
    have d1 : D 1 = some 32 := by rw [<- hD]; rfl
    have d2 : D 2 = some 33 := by rw [<- hD]; rfl
    have d3 : D 3 = some 34 := by rw [<- hD]; rfl
    have d4 : D 4 = some 35 := by rw [<- hD]; rfl
    have d5 : D 5 = some 36 := by rw [<- hD]; rfl
    have d6 : D 6 = some 37 := by rw [<- hD]; rfl
    have d7 : D 7 = some 38 := by rw [<- hD]; rfl
    have d8 : D 8 = some 39 := by rw [<- hD]; rfl
    have d9 : D 9 = some 40 := by rw [<- hD]; rfl
    have d10 : D 10 = some 41 := by rw [<- hD]; rfl
    have d11 : D 11 = some 42 := by rw [<- hD]; rfl
    have d12 : D 12 = some 43 := by rw [<- hD]; rfl
    have d13 : D 13 = some 44 := by rw [<- hD]; rfl
    have d14 : D 14 = some 45 := by rw [<- hD]; rfl
    have r0 : ∀ v w, R 0 v w = (v = .pointer (some ⟨rb, 0, none⟩)) := fun v w => by rw [hR]; rfl
    have r1 : ∀ v w, R 1 v w = (v = .pointer (some ⟨rb, 0, none⟩)) := fun v w => by rw [hR]; rfl
    have r2 : ∀ v w, R 2 v w = (v = .int .i64 at0) := fun v w => by rw [hR]; rfl
    have r3 : ∀ v w, R 3 v w = (v = .int .i64 ta) := fun v w => by rw [hR]; rfl
    have r4 : ∀ v w, R 4 v w = (v = .pointer (some ⟨rb, 0, none⟩)) := fun v w => by rw [hR]; rfl
    have r5 : ∀ v w, R 5 v w = (v = .pointer (some ⟨rb, 1, none⟩)) := fun v w => by rw [hR]; rfl
    have r6 : ∀ v w, R 6 v w = (v = .int .i64 at1) := fun v w => by rw [hR]; rfl
    have r7 : ∀ v w, R 7 v w = (v = .int .i64 tb) := fun v w => by rw [hR]; rfl
    have r8 : ∀ v w, R 8 v w = (v = .pointer (some ⟨rb, 0, none⟩)) := fun v w => by rw [hR]; rfl
    have r9 : ∀ v w, R 9 v w = (v = .pointer (some ⟨rb, 2, none⟩)) := fun v w => by rw [hR]; rfl
    have r10 : ∀ v w, R 10 v w = (v = .int .i64 at2) := fun v w => by rw [hR]; rfl
    have r11 : ∀ v w, R 11 v w = (v = .int .i64 tc) := fun v w => by rw [hR]; rfl
    have r12 : ∀ v w, R 12 v w = (v = .agg #[.int .i64 ta, .int .i64 tb, .int .i64 tc]) := fun v w => by rw [hR]; rfl
    have r13 : ∀ v w, R 13 v w = (v = .agg #[.int .i64 ua, .int .i64 ub, .int .i64 uc, .int .i64 ud]) := fun v w => by rw [hR]; rfl
    have r14 : ∀ v w, R 14 v w = (v = .agg #[.int .i64 ta, .int .i64 tb, .int .i64 tc, .int .i64 ua, .int .i64 ub, .int .i64 uc, .int .i64 ud]) := fun v w => by rw [hR]; rfl
    have r15 : ∀ v w, R 15 v w = (True) := fun v w => by rw [hR]; rfl
    have F1_ : ∀ j, D j ≠ some 1 := by rw [<- hD]; exact RV.dst_free (by kernel_rfl)
    have Z1_ : Z.tmps[1]? = some (.pointer (some ⟨rb, 0, none⟩)) := by rw [<- hZ]; rfl
    have F2_ : ∀ j, D j ≠ some 2 := by rw [<- hD]; exact RV.dst_free (by kernel_rfl)
    have Z2_ : Z.tmps[2]? = some (.pointer (some ⟨ob, 0, none⟩)) := by rw [<- hZ]; rfl
    have F4_ : ∀ j, D j ≠ some 4 := by rw [<- hD]; exact RV.dst_free (by kernel_rfl)
    have Z4_ : Z.tmps[4]? = some (.pointer (some ⟨b3, 0, none⟩)) := by rw [<- hZ]; rfl
    have K : ∀ j v w w', R j v w -> R j v w' := by rw [hR]; intro j v w w' h; exact h
    clear hD hWA hZ hR
    refine RV.cc 0 (RV.dp (fun γ v L w hl h => ⟨h.1, h.2.1, h.2.2.1, by rw [RV.mn (L := L) (i := 0) (j := 15) (by decide)]; exact h.2.2.2⟩) (fun γ L a w hH hl hA => by have e0 := ((hH.rest 1 F1_).trans Z1_); exact ⟨.pointer (some ⟨rb, 0, none⟩), by simp [execOp, go_sem, e0], (r0 _ _).mpr rfl⟩)) ?_
    refine RV.cc 1 (RV.dp (fun γ v L w hl h => ⟨h.1, h.2.1, h.2.2.1, by rw [RV.mn (L := L) (i := 1) (j := 15) (by decide)]; exact h.2.2.2⟩) (fun γ L a w hH hl hA => by have e0 := hH.got d0 r0 (hA ⟨0, .data⟩ (by simp) rfl); exact ⟨.pointer (some ⟨rb, 0, none⟩), by simp [execOp, go_sem, e0], (r1 _ _).mpr rfl⟩)) ?_
    refine RV.cc 2 (RV.dp (fun γ v L w hl h => ⟨h.1, h.2.1, h.2.2.1, by rw [RV.mn (L := L) (i := 2) (j := 15) (by decide)]; exact h.2.2.2⟩) (fun γ L a w hH hl hA => by have e0 := hH.got d1 r1 (hA ⟨1, .data⟩ (by simp) rfl); have wz9 := (hH.glob.2.1 0 _ rfl).1; exact ⟨.int .i64 at0, by simp [execOp, go_sem, e0, wz9], (r2 _ _).mpr rfl⟩)) ?_
    refine RV.cc 3 (RV.dc (fun γ L a w hH hl hA => by have e0 := hH.got d2 r2 (hA ⟨2, .data⟩ (by simp) rfl); refine ⟨60, #[.int .i64 at0, .int .i64 4398046511104], by simp [go_sem, e0], Calls.mono (HA0.out w) ?_⟩; rintro e w2 ⟨rfl, rfl⟩; exact ⟨_, rfl, (r3 _ _).mpr rfl, fun j v _ h => K j v _ _ h, hH.glob.1, hH.glob.2.1, hH.glob.2.2.1, by rw [RV.mn (L := L) (i := 3) (j := 15) (by decide)]; exact hH.glob.2.2.2⟩)) ?_
    refine RV.cc 4 (RV.dp (fun γ v L w hl h => ⟨h.1, h.2.1, h.2.2.1, by rw [RV.mn (L := L) (i := 4) (j := 15) (by decide)]; exact h.2.2.2⟩) (fun γ L a w hH hl hA => by have e0 := ((hH.rest 1 F1_).trans Z1_); exact ⟨.pointer (some ⟨rb, 0, none⟩), by simp [execOp, go_sem, e0], (r4 _ _).mpr rfl⟩)) ?_
    refine RV.cc 5 (RV.dp (fun γ v L w hl h => ⟨h.1, h.2.1, h.2.2.1, by rw [RV.mn (L := L) (i := 5) (j := 15) (by decide)]; exact h.2.2.2⟩) (fun γ L a w hH hl hA => by have e0 := hH.got d4 r4 (hA ⟨4, .data⟩ (by simp) rfl); exact ⟨.pointer (some ⟨rb, 1, none⟩), by simp [execOp, go_sem, e0], (r5 _ _).mpr rfl⟩)) ?_
    refine RV.cc 6 (RV.dp (fun γ v L w hl h => ⟨h.1, h.2.1, h.2.2.1, by rw [RV.mn (L := L) (i := 6) (j := 15) (by decide)]; exact h.2.2.2⟩) (fun γ L a w hH hl hA => by have e0 := hH.got d5 r5 (hA ⟨5, .data⟩ (by simp) rfl); have wz9 := (hH.glob.2.1 1 _ rfl).1; exact ⟨.int .i64 at1, by simp [execOp, go_sem, e0, wz9], (r6 _ _).mpr rfl⟩)) ?_
    refine RV.cc 7 (RV.dc (fun γ L a w hH hl hA => by have e0 := hH.got d6 r6 (hA ⟨6, .data⟩ (by simp) rfl); refine ⟨60, #[.int .i64 at1, .int .i64 4398046511104], by simp [go_sem, e0], Calls.mono (HA1.out w) ?_⟩; rintro e w2 ⟨rfl, rfl⟩; exact ⟨_, rfl, (r7 _ _).mpr rfl, fun j v _ h => K j v _ _ h, hH.glob.1, hH.glob.2.1, hH.glob.2.2.1, by rw [RV.mn (L := L) (i := 7) (j := 15) (by decide)]; exact hH.glob.2.2.2⟩)) ?_
    refine RV.cc 8 (RV.dp (fun γ v L w hl h => ⟨h.1, h.2.1, h.2.2.1, by rw [RV.mn (L := L) (i := 8) (j := 15) (by decide)]; exact h.2.2.2⟩) (fun γ L a w hH hl hA => by have e0 := ((hH.rest 1 F1_).trans Z1_); exact ⟨.pointer (some ⟨rb, 0, none⟩), by simp [execOp, go_sem, e0], (r8 _ _).mpr rfl⟩)) ?_
    refine RV.cc 9 (RV.dp (fun γ v L w hl h => ⟨h.1, h.2.1, h.2.2.1, by rw [RV.mn (L := L) (i := 9) (j := 15) (by decide)]; exact h.2.2.2⟩) (fun γ L a w hH hl hA => by have e0 := hH.got d8 r8 (hA ⟨8, .data⟩ (by simp) rfl); exact ⟨.pointer (some ⟨rb, 2, none⟩), by simp [execOp, go_sem, e0], (r9 _ _).mpr rfl⟩)) ?_
    refine RV.cc 10 (RV.dp (fun γ v L w hl h => ⟨h.1, h.2.1, h.2.2.1, by rw [RV.mn (L := L) (i := 10) (j := 15) (by decide)]; exact h.2.2.2⟩) (fun γ L a w hH hl hA => by have e0 := hH.got d9 r9 (hA ⟨9, .data⟩ (by simp) rfl); have wz9 := (hH.glob.2.1 2 _ rfl).1; exact ⟨.int .i64 at2, by simp [execOp, go_sem, e0, wz9], (r10 _ _).mpr rfl⟩)) ?_
    refine RV.cc 11 (RV.dc (fun γ L a w hH hl hA => by have e0 := hH.got d10 r10 (hA ⟨10, .data⟩ (by simp) rfl); refine ⟨60, #[.int .i64 at2, .int .i64 4398046511104], by simp [go_sem, e0], Calls.mono (HA2.out w) ?_⟩; rintro e w2 ⟨rfl, rfl⟩; exact ⟨_, rfl, (r11 _ _).mpr rfl, fun j v _ h => K j v _ _ h, hH.glob.1, hH.glob.2.1, hH.glob.2.2.1, by rw [RV.mn (L := L) (i := 11) (j := 15) (by decide)]; exact hH.glob.2.2.2⟩)) ?_
    refine RV.cc 12 (RV.dp (fun γ v L w hl h => ⟨h.1, h.2.1, h.2.2.1, by rw [RV.mn (L := L) (i := 12) (j := 15) (by decide)]; exact h.2.2.2⟩) (fun γ L a w hH hl hA => by have e0 := hH.got d3 r3 (hA ⟨3, .data⟩ (by simp) rfl); have e1 := hH.got d7 r7 (hA ⟨7, .data⟩ (by simp) rfl); have e2 := hH.got d11 r11 (hA ⟨11, .data⟩ (by simp) rfl); exact ⟨.agg #[.int .i64 ta, .int .i64 tb, .int .i64 tc], by simp [execOp, go_sem, e0, e1, e2], (r12 _ _).mpr rfl⟩)) ?_
    refine RV.cc 13 (RV.dp (fun γ v L w hl h => ⟨h.1, h.2.1, h.2.2.1, by rw [RV.mn (L := L) (i := 13) (j := 15) (by decide)]; exact h.2.2.2⟩) (fun γ L a w hH hl hA => by have e0 := ((hH.rest 4 F4_).trans Z4_); have wz0 := (hH.glob.2.2.1 0 _ rfl).1; have wz1 := (hH.glob.2.2.1 1 _ rfl).1; have wz2 := (hH.glob.2.2.1 2 _ rfl).1; have wz3 := (hH.glob.2.2.1 3 _ rfl).1; exact ⟨.agg #[.int .i64 ua, .int .i64 ub, .int .i64 uc, .int .i64 ud], by simp [execOp, go_sem, e0, wz0, wz1, wz2, wz3], (r13 _ _).mpr rfl⟩)) ?_
    refine RV.cc 14 (RV.dp (fun γ v L w hl h => ⟨h.1, h.2.1, h.2.2.1, by rw [RV.mn (L := L) (i := 14) (j := 15) (by decide)]; exact h.2.2.2⟩) (fun γ L a w hH hl hA => by have e0 := hH.got d12 r12 (hA ⟨12, .data⟩ (by simp) rfl); have e1 := hH.got d13 r13 (hA ⟨13, .data⟩ (by simp) rfl); exact ⟨.agg #[.int .i64 ta, .int .i64 tb, .int .i64 tc, .int .i64 ua, .int .i64 ub, .int .i64 uc, .int .i64 ud], by simp [execOp, go_sem, e0, e1], (r14 _ _).mpr rfl⟩)) ?_
    refine RV.cc 15 (RV.does_store (fun γ L a w hH hl hA => by have e0 := ((hH.rest 2 F2_).trans Z2_); have e1 := hH.got d14 r14 (hA ⟨14, .data⟩ (by simp) rfl); have hG := hH.glob; rw [hl] at hG; have wz0 := hG.2.2.2 0 _ rfl; have wz1 := hG.2.2.2 1 _ rfl; have wz2 := hG.2.2.2 2 _ rfl; have wz3 := hG.2.2.2 3 _ rfl; have wz4 := hG.2.2.2 4 _ rfl; have wz5 := hG.2.2.2 5 _ rfl; have wz6 := hG.2.2.2 6 _ rfl; refine ⟨(((((((w.setCell ⟨ob, 0, none⟩ (.int .i64 ta)).setCell ⟨ob, 1, none⟩ (.int .i64 tb)).setCell ⟨ob, 2, none⟩ (.int .i64 tc)).setCell ⟨ob, 3, none⟩ (.int .i64 ua)).setCell ⟨ob, 4, none⟩ (.int .i64 ub)).setCell ⟨ob, 5, none⟩ (.int .i64 uc)).setCell ⟨ob, 6, none⟩ (.int .i64 ud)), by simp [execOp, go_sem, e0, e1, wz0.1, wz0.2, wz1.1, wz1.2, wz2.1, wz2.2, wz3.1, wz3.2, wz4.1, wz4.2, wz5.1, wz5.2, wz6.1, wz6.2], (r15 _ _).mpr trivial, fun j v _ h => K j v _ _ h, (((((((hG.1.setCell hob _).setCell hob _).setCell hob _).setCell hob _).setCell hob _).setCell hob _).setCell hob _), (((((((hG.2.1.apart hro 0 _).apart hro 1 _).apart hro 2 _).apart hro 3 _).apart hro 4 _).apart hro 5 _).apart hro 6 _), (((((((hG.2.2.1.apart hbo 0 _).apart hbo 1 _).apart hbo 2 _).apart hbo 3 _).apart hbo 4 _).apart hbo 5 _).apart hbo 6 _), ?_⟩; rw [RV.more_self]; exact (Cells.set (Cells.set (Cells.set (Cells.set (Cells.set (Cells.set (Cells.set hG.2.2.2 0 (.int .i64 ta) (by simp)) 1 (.int .i64 tb) (by simp)) 2 (.int .i64 tc) (by simp)) 3 (.int .i64 ua) (by simp)) 4 (.int .i64 ub) (by simp)) 5 (.int .i64 uc) (by simp)) 6 (.int .i64 ud) (by simp)))) ?_
    exact RV.AllDo.nil
   ·intro γ a5 w5 L9 hL hLo hH
    have ha := RV.held_act hH hL (by kernel_rfl) (by kernel_rfl)
    have hG := hH.glob
    rw [hL 15 (by decide)] at hG
    rw [ha]
    clear ha hH hL hLo
    simp only [RV.putAll, Act.put, List.setIfInBounds_toArray, List.set_cons_zero, List.set_cons_succ, Nat.zero_add, Nat.reduceAdd]
    have HB5 : Hid _ := hG.1
    have C5 : Cells w5 ob [.int .i64 ta, .int .i64 tb, .int .i64 tc, .int .i64 ua, .int .i64 ub, .int .i64 uc, .int .i64 ud] := hG.2.2.2
    have z0_ := (C5 0 _ rfl).1
    have z1_ := (C5 1 _ rfl).1
    have z2_ := (C5 2 _ rfl).1
    have z3_ := (C5 3 _ rfl).1
    have z4_ := (C5 4 _ rfl).1
    have z5_ := (C5 5 _ rfl).1
    have z6_ := (C5 6 _ rfl).1
    clear hG C5
    go_wp2
    exact bodyPost_ret (v := .agg #[.int .i64 ta, .int .i64 tb, .int .i64 tc, .int .i64 ua, .int .i64 ub, .int .i64 uc, .int .i64 ud]) (by simp [results, Tryz.results24, go_sem, z0_, z1_, z2_, z3_, z4_, z5_, z6_]) rfl ⟨⟨ta, tb, tc⟩, ⟨ua, ub, uc, ud⟩, rfl, HT.out, HQ9.out, HB5.out⟩
end
section
open Go.RowKit Go.Shelf
structure Came (t : Pt) (q : Q4) (P A E P2 A2 E2 : List Pt) : Prop where
 p : P2 = P.map ((rowsM q).ptV t)
 a : A2 = (rowsM q).dirs A
 e : E2 = (rowsM q).dirs E
 len : P2.length = P.length
 near : ∀ p ∈ P2, p.inB 8388608 = true
theorem Three.fill {w0 W : World} {vp va ve : Value} {P A E : List Pt} {b : Nat} {cs : Array Value} (h : Three w0 W vp va ve P A E) (hb : w0.heap.size <= b) (hx : W.heap[b]? = some (.cells cs 35 (0, 0))) (v0 v1 v2 v3 : Value) : Three w0 (set4 W b v0 v1 v2 v3) vp va ve P A E := by
 have hr : ∀ {u : Value} {n : Nat} {xs : List Value}, W.ownsRow w0.heap.size 23 3 u n xs -> u.ownBlock ≠ some b := fun h9 e => by
  rcases h9.2 with ⟨rfl, _⟩ | ⟨g, cap, cur, rfl, _, hgb, _⟩
  ·cases e
  ·have : g = b := by simpa [Value.ownBlock] using e
   subst this
   rw [hx] at hgb
   simp at hgb
 exact h.set hb (hr h.rp) (hr h.ra) (hr h.re) _ _ _ _
theorem Three.up {w0 w1 W : World} {vp va ve : Value} {P A E : List Pt} (h : Three w1 W vp va ve P A E) (hb : Below w0.heap.size w0 w1) : Three w0 W vp va ve P A E :=
 ⟨own_le h.rp hb.size, own_le h.ra hb.size, own_le h.re hb.size, h.pa, h.pe, h.ae, hb.trans (h.below.mono hb.size)⟩
def cp0 : Value -> Value
 | .tuple vs => vs.getD 0 undef
 | _ => undef
structure SG (X : World) (sr : Int) (Ps As Es : List Pt) (g2 g3 g4 g5 g7 : Value) (l2 l3 l4 l5 l7 l8 : Bool) (w : World) : Prop where
 be : Below X.heap.size X w
 t3 : l3 = true -> ∃ (P2 A2 E2 : List Pt) (vp va ve : Value) (t : Pt) (q : Q4), g3 = .tuple #[.agg #[vp, va, ve, .int .i64 sr], .bool true] /\ Three X w vp va ve P2 A2 E2 /\ Came t q Ps As Es P2 A2 E2
 m4 : l4 = true -> g4 = g3
 m5 : l5 = true -> g5 = cp0 g3
 pd : l7 = true -> ∃ b cs, g7 = .pointer (some ⟨b, 0, none⟩) /\ X.heap.size <= b /\ w.heap[b]? = some (.cells cs 35 (0, 0)) /\ cs.size = 4 /\ (l8 = true -> l3 = true /\ ∀ vp va ve, g3 = .tuple #[.agg #[vp, va, ve, .int .i64 sr], .bool true] -> cs = #[vp, va, ve, .int .i64 sr])
section
variable {X w w' : World} {sr : Int} {Ps As Es : List Pt} {g2 g3 g4 g5 g7 : Value} {l2 l3 l4 l5 l7 l8 : Bool}
theorem SG.step (h : SG X sr Ps As Es g2 g3 g4 g5 g7 l2 l3 l4 l5 l7 l8 w) (hb : Below w.heap.size w w') : SG X sr Ps As Es g2 g3 g4 g5 g7 l2 l3 l4 l5 l7 l8 w' := by
 refine ⟨b_step h.be hb, fun e => ?_, h.m4, h.m5, fun e => ?_⟩
 ·obtain ⟨P2, A2, E2, vp, va, ve, t, q, x1, x2, x3⟩ := h.t3 e
  exact ⟨P2, A2, E2, vp, va, ve, t, q, x1, x2.step hb, x3⟩
 ·obtain ⟨b, cs, x1, x2, x3, x4, x5⟩ := h.pd e
  exact ⟨b, cs, x1, x2, (hb.block b (Array.getElem?_eq_some_iff.1 x3).1).trans x3, x4, x5⟩
theorem SG.got (h : SG X sr Ps As Es g2 g3 g4 g5 g7 l2 l3 l4 l5 l7 l8 w) (h4 : l4 = false) (h5 : l5 = false) (h8 : l8 = false) {P2 A2 E2 : List Pt} {vp va ve : Value} {t : Pt} {q : Q4} (hT : Three w w' vp va ve P2 A2 E2) (hC : Came t q Ps As Es P2 A2 E2) :
  SG X sr Ps As Es g2 (.tuple #[.agg #[vp, va, ve, .int .i64 sr], .bool true]) g4 g5 g7 l2 true l4 l5 l7 l8 w' := by
 have h9 := h.step hT.below
 refine ⟨h9.be, fun _ => ⟨P2, A2, E2, vp, va, ve, t, q, rfl, hT.up h.be, hC⟩, fun e => (by rw [h4] at e; cases e), fun e => (by rw [h5] at e; cases e), fun e => ?_⟩
 obtain ⟨b, cs, x1, x2, x3, x4, _⟩ := h9.pd e
 exact ⟨b, cs, x1, x2, x3, x4, fun e => (by rw [h8] at e; cases e)⟩
theorem SG.made (h : SG X sr Ps As Es g2 g3 g4 g5 g7 l2 l3 l4 l5 l7 l8 w) (h8 : l8 = false) : SG X sr Ps As Es g2 g3 g4 g5 (.pointer (some ⟨w.heap.size, 0, none⟩)) l2 l3 l4 l5 true l8 (w.alloc (.cells #[.slice none 0 0, .slice none 0 0, .slice none 0 0, .int .i64 0] 35)) := by
 have h9 := h.step (n_after w (.cells #[.slice none 0 0, .slice none 0 0, .slice none 0 0, .int .i64 0] 35))
 exact ⟨h9.be, h9.t3, h9.m4, h9.m5, fun _ => ⟨w.heap.size, _, rfl, h.be.size, heap_alloc_new _ _, rfl, fun e => (by rw [h8] at e; cases e)⟩⟩
theorem SG.fill (h : SG X sr Ps As Es g2 g3 g4 g5 g7 l2 true l4 l5 true l8 w) {b : Nat} {cs : Array Value} (e7 : g7 = .pointer (some ⟨b, 0, none⟩)) (hb : X.heap.size <= b) (hx : w.heap[b]? = some (.cells cs 35 (0, 0))) (hcs : cs.size = 4) {vp va ve : Value} (e3 : g3 = .tuple #[.agg #[vp, va, ve, .int .i64 sr], .bool true]) :
  SG X sr Ps As Es g2 g3 g4 g5 g7 l2 true l4 l5 true true (set4 w b vp va ve (.int .i64 sr)) := by
 obtain ⟨q0, q1, q2, q3, rfl⟩ := arr4' hcs
 refine ⟨set4_below h.be hb _ _ _ _, fun _ => ?_, h.m4, h.m5, fun _ => ⟨b, #[vp, va, ve, .int .i64 sr], e7, hb, ?_, rfl, fun _ => ⟨rfl, fun vp' va' ve' e' => ?_⟩⟩⟩
 ·obtain ⟨P2, A2, E2, vp, va, ve, t, q, x1, x2, x3⟩ := h.t3 rfl
  exact ⟨P2, A2, E2, vp, va, ve, t, q, x1, x2.fill hb hx _ _ _ _, x3⟩
 ·have y0 := Go.heap_setCell_same w b 0 _ _ vp hx
  have y1 := Go.heap_setCell_same _ b 1 _ _ va y0
  have y2 := Go.heap_setCell_same _ b 2 _ _ ve y1
  have y3 := Go.heap_setCell_same _ b 3 _ _ (.int .i64 sr) y2
  simpa [set4] using y3
 ·rw [e3] at e'
  simp only [Value.tuple.injEq, Array.mk.injEq, List.cons.injEq, Value.agg.injEq, and_true] at e'
  obtain ⟨rfl, rfl, rfl⟩ := e'
  rfl
end
end
section
open Go.RowKit Go.Shelf
set_option maxHeartbeats 2000000 in
theorem rin6_any (p : Pt) (m : Int) (w : World) (hm : 0 <= m /\ m <= 4611686018427387903) :
  Calls Tryz.prog 62 #[p.v, .int .i64 m] w fun e W => e = .returned (.bool (p.inB m)) /\ Below w.heap.size w W := by
 have HI : Hid (p.inB m = decide ((-m <= p.x /\ p.x <= m) /\ (-m <= p.y /\ p.y <= m) /\ (-m <= p.z /\ p.z <= m))) := rfl
 obtain ⟨R9, hR9⟩ : ∃ R9, p.inB m = R9 := ⟨_, rfl⟩
 rw [hR9] at HI ⊢
 clear hR9
 obtain ⟨x, y, z⟩ := p
 unfold Pt.v
 dsimp only at *
 obtain ⟨mm, hmm⟩ : ∃ mm, IntKind.i64.wrap (-m) = mm := ⟨_, rfl⟩
 have hm9 : mm = -m := by rw [<- hmm, IntKind.wrap_i64]; omega
 rw [<- hm9] at HI
 have HM : Hid _ := hm
 clear hm9 hm
 by_cases h1 : mm <= x
 ·by_cases h2 : x <= m
  ·by_cases h3 : mm <= y
   ·by_cases h4 : y <= m
    ·by_cases h5 : mm <= z
     ·by_cases h6 : z <= m
      ·have e9 : R9 = true := by rw [HI.out]; simp [h1, h2, h3, h4, h5, h6]
       subst e9
       go_enter Tryz.func62, Tryz.ntmps62
       go_wp2
       go_ret
       exact ⟨rfl, n_after _ _⟩
      ·have e9 : R9 = false := by rw [HI.out]; simp [h6]
       subst e9
       go_enter Tryz.func62, Tryz.ntmps62
       go_wp2
       go_ret
       exact ⟨rfl, n_after _ _⟩
     ·have e9 : R9 = false := by rw [HI.out]; simp [h5]
      subst e9
      go_enter Tryz.func62, Tryz.ntmps62
      go_wp2
      go_ret
      exact ⟨rfl, n_after _ _⟩
    ·have e9 : R9 = false := by rw [HI.out]; simp [h4]
     subst e9
     go_enter Tryz.func62, Tryz.ntmps62
     go_wp2
     go_ret
     exact ⟨rfl, n_after _ _⟩
   ·have e9 : R9 = false := by rw [HI.out]; simp [h3]
    subst e9
    go_enter Tryz.func62, Tryz.ntmps62
    go_wp2
    go_ret
    exact ⟨rfl, n_after _ _⟩
  ·have e9 : R9 = false := by rw [HI.out]; simp [h2]
   subst e9
   go_enter Tryz.func62, Tryz.ntmps62
   go_wp2
   go_ret
   exact ⟨rfl, n_after _ _⟩
 ·have e9 : R9 = false := by rw [HI.out]; simp [h1]
  subst e9
  go_enter Tryz.func62, Tryz.ntmps62
  go_wp2
  go_ret
  exact ⟨rfl, n_after _ _⟩
set_option maxHeartbeats 1000000 in
theorem rtimes6_any (p : Pt) (n : Int) (w : World) :
  Calls Tryz.prog 65 #[p.v, .int .i64 n] w fun e W => e = .returned (p.times n).v /\ Below w.heap.size w W := by
 obtain ⟨x, y, z⟩ := p
 unfold Pt.v Pt.times
 dsimp only at *
 obtain ⟨s1, h1⟩ : ∃ s, IntKind.i64.wrap (x * n) = s := ⟨_, rfl⟩
 obtain ⟨s2, h2⟩ : ∃ s, IntKind.i64.wrap (y * n) = s := ⟨_, rfl⟩
 obtain ⟨s3, h3⟩ : ∃ s, IntKind.i64.wrap (z * n) = s := ⟨_, rfl⟩
 rw [h1, h2, h3]
 go_enter Tryz.func65, Tryz.ntmps65
 go_wp2
 exact bodyPost_ret (v := .agg #[.int .i64 s1, .int .i64 s2, .int .i64 s3]) (by simp [results, Tryz.results65, go_sem]) rfl ⟨rfl, b_step (n_after _ _) (n_after _ _)⟩
theorem down_is {n : Int} (hn : -4611686018427387904 <= n /\ n <= 4611686018427387903) : (n.tmod 1048576 < 0 -> n.tdiv 1048576 - 1 = n / 1048576) /\ (¬ n.tmod 1048576 < 0 -> n.tdiv 1048576 = n / 1048576) := by
 have h1 := Int.tmod_add_mul_tdiv n 1048576
 have h2 := Int.tmod_lt_of_pos n (b := 1048576) (by decide)
 have h3 : -1048576 < n.tmod 1048576 := by
  have := Int.tmod_lt_of_pos (-n) (b := 1048576) (by decide)
  rw [Int.neg_tmod] at this
  omega
 omega
set_option maxHeartbeats 1000000 in
theorem rdown6_any (n : Int) (w : World) (hn : -4611686018427387904 <= n /\ n <= 4611686018427387903) :
  Calls Tryz.prog 66 #[.int .i64 n] w fun e W => e = .returned (.int .i64 (n / 1048576)) /\ W = w := by
 obtain ⟨d1, d2⟩ := down_is hn
 obtain ⟨r, hr⟩ : ∃ r, n / 1048576 = r := ⟨_, rfl⟩
 rw [hr] at d1 d2 ⊢
 have b1 : -4611686018427387904 <= n.tdiv 1048576 /\ n.tdiv 1048576 <= 4611686018427387903 := by
  have e : (n.tdiv 1048576).natAbs = n.natAbs / 1048576 := Int.natAbs_tdiv n 1048576
  omega
 clear hr
 obtain ⟨t, ht⟩ : ∃ t, n.tdiv 1048576 = t := ⟨_, rfl⟩
 obtain ⟨u, hu⟩ : ∃ u, n.tmod 1048576 = u := ⟨_, rfl⟩
 have e1 : wrap64 (n.tdiv 1048576) = t := by rw [w64 (by omega) (by omega)]; exact ht
 rw [ht] at d1 d2 b1
 rw [hu] at d1 d2
 have e2 : wrap64 (t - 1) = t - 1 := w64 (by omega) (by omega)
 by_cases h : u < 0
 ·have e3 : t - 1 = r := d1 h
  subst e3
  clear d1 d2 b1 hn ht
  go_enter Tryz.func66, Tryz.ntmps66
  go_wp2
  go_ret
  exact ⟨by simp [e1, e2], rfl⟩
 ·have e3 : t = r := d2 h
  subst e3
  clear d1 d2 b1 hn ht
  go_enter Tryz.func66, Tryz.ntmps66
  go_wp2
  go_ret
  exact ⟨by simp, rfl⟩
end
section
open Go.RowKit Go.Shelf
theorem rvturn_pt (b off : Nat) (f : Bool) (m : M9) (x : Pt) (W : World) (hc : W.cell? ⟨b, off, none⟩ = some (.bool f)) (hf : W.frozen? ⟨b, off, none⟩ = false) :
  Calls Tryz.prog 64 #[.pointer (some ⟨b, off, none⟩), m.v, x.v] W fun e W' => e = .returned ((m.turn x).getD Pt.O).v /\ Hid (After ⟨b, off, none⟩ (f || (m.turn x).isNone) W W') := by
 refine Calls.mono (rvturn_law b off f m.a0 m.a1 m.a2 m.a3 m.a4 m.a5 m.a6 m.a7 m.a8 x.x x.y x.z W hc hf) ?_
 rintro e W' ⟨v0, v1, v2, g, rfl, S3, A⟩
 obtain ⟨e1, e2⟩ := step3_pt S3.out
 unfold M9.turn
 rw [<- e1, <- e2]
 exact ⟨rfl, A⟩
structure WS (w : World) (n0 : Nat) (V : World) (wb : Nat) (g : Bool) (u : Value) (M : List Pt) : Prop where
 lv : Leaves ⟨wb, 0, none⟩ w V
 fl : V.cell? ⟨wb, 0, none⟩ = some (.bool g)
 ff : V.frozen? ⟨wb, 0, none⟩ = false
 own : V.ownsRow n0 23 3 u M.length (fl3 M)
 hw : wb < w.heap.size
 hn : w.heap.size <= n0
section
variable {w V X : World} {wb n0 : Nat} {g g' : Bool} {u : Value} {M : List Pt}
theorem WS.step (h : WS w n0 V wb g u M) (hb : Below V.heap.size V X) : WS w n0 X wb g u M :=
 ⟨h.lv.step (hb.mono h.lv.size), c_after hb h.fl, f_after hb h.fl h.ff, own_below h.own hb, h.hw, h.hn⟩
theorem WS.after (h : WS w n0 V wb g u M) (A : After ⟨wb, 0, none⟩ g' V X) : WS w n0 X wb g' u M :=
 ⟨h.lv.same A, A.cell, A.frozen, row_turn h.own (after_grown A) (fun r e => by cases e; have := h.hw; have := h.hn; omega), h.hw, h.hn⟩
theorem WS.set3 (h : WS w n0 V wb g u M) {b : Nat} (hb : w.heap.size <= b) (hu : u.ownBlock ≠ some b) (x y z : Int) : WS w n0 (set3 V b x y z) wb g u M := by
 have hne : wb ≠ b := by have := h.hw; omega
 have hk : (Go.Proofs.YtffjifhojedmkaaGreat.set3 V b x y z).heap[wb]? = V.heap[wb]? := by
  unfold Go.Proofs.YtffjifhojedmkaaGreat.set3
  rw [Below.heap_setCell _ _ _ _ hne, Below.heap_setCell _ _ _ _ hne, Below.heap_setCell _ _ _ _ hne]
 exact ⟨((h.lv.set hb _).set hb _).set hb _, (World.cell?_of_block (w := V) (a := ⟨wb, 0, none⟩) hk).trans h.fl, (World.frozen?_of_block (w := V) (a := ⟨wb, 0, none⟩) hk).trans h.ff, ownsRow_setCell_other (ownsRow_setCell_other (ownsRow_setCell_other h.own hu _) hu _) hu _, h.hw, h.hn⟩
theorem WS.app {u' : Value} {p : Pt} (h : WS w n0 V wb g u M) (hr : X.ownsRow n0 23 3 u' (M.length + 1) (fl3 M ++ [.int .i64 p.x, .int .i64 p.y, .int .i64 p.z])) (hg : V.grownBy X u.ownBlock) : WS w n0 X wb g u' (M ++ [p]) := by
 have hne : ∀ k, u.ownBlock = some k -> k ≠ wb := fun k e => by have := (h.own.lt k e).1; have := h.hw; have := h.hn; omega
 have hbl : X.heap[wb]? = V.heap[wb]? := hg.block wb (World.block_lt_of_cell? _ _ h.fl) (fun e => hne wb e.symm rfl)
 have hB : Below w.heap.size V X := by
  refine ⟨hg.os, hg.tape, hg.output, hg.size, fun k hk => ?_⟩
  by_cases hkV : k < V.heap.size
  ·exact hg.block k hkV (fun e => by have := (h.own.lt k e.symm).1; have := h.hn; omega)
  ·have := h.lv.size; omega
 refine ⟨h.lv.step hB, (World.cell?_of_block (w := V) (a := ⟨wb, 0, none⟩) hbl).trans h.fl, (World.frozen?_of_block (w := V) (a := ⟨wb, 0, none⟩) hbl).trans h.ff, ?_, h.hw, h.hn⟩
 rw [fl3_append, List.length_append]; exact hr
theorem WS.le (h : WS w n0 V wb g u M) : WS w w.heap.size V wb g u M := ⟨h.lv, h.fl, h.ff, own_le h.own h.hn, h.hw, Nat.le_refl _⟩
theorem big_nz {q : Pt} {n : Nat} (h : q.big n) : q.x = 0 -> q.y = 0 -> ¬ q.z = 0 := by
 intro a b c
 unfold Pt.big at h
 rw [a, b, c] at h
 have : 0 < 2 ^ n := Nat.pow_pos (by decide)
 simp only [Int.natAbs_zero] at h
 omega
theorem plus_two (q : Pt) : ∃ x2 y2 z2, q.plus q = ⟨x2, y2, z2⟩ /\ IntKind.wrap .i64 (2 * q.x) = x2 /\ IntKind.wrap .i64 (2 * q.y) = y2 /\ IntKind.wrap .i64 (2 * q.z) = z2 := by
 refine ⟨_, _, _, ?_, rfl, rfl, rfl⟩
 unfold Pt.plus
 simp only [Int.two_mul]
theorem Cells.put3w {W : World} {b c : Nat} {vs : List Value} (h : Cells W b vs) (hn : b ≠ c) (x y z : Int) : Cells (set3 W c x y z) b vs := ((Cells.apart h hn 0 _).apart hn 1 _).apart hn 2 _
end
set_option maxHeartbeats 8000000 in
set_option maxRecDepth 100000 in
theorem rways_any (wb : Nat) (f : Bool) (m : M9) (Ls : List Pt) (v : Value) (w : World) (hc : w.cell? ⟨wb, 0, none⟩ = some (.bool f)) (hf : w.frozen? ⟨wb, 0, none⟩ = false) (hv : Lies w v Ls) (hne : ∀ q n c, v = .slice (some q) n c -> Ls ≠ [] -> q.block ≠ wb) (hN : Ls.length < 1099511627776) :
  Calls Tryz.prog 67 #[.pointer (some ⟨wb, 0, none⟩), m.v, v] w fun e W => (∃ u, (∀ p ∈ Ls, p.inB 1048576 = true) /\ e = .returned (.tuple #[u, .bool true]) /\ WS w w.heap.size W wb (f || Ls.any m.dirB) u (m.dirs Ls)) \/ (∃ g, (∃ p ∈ Ls, p.inB 1048576 = false) /\ e = .returned (.tuple #[.slice none 0 0, .bool false]) /\ WS w w.heap.size W wb g (.slice none 0 0) []) := by
 obtain ⟨o, cap, rfl, hlc, hcm, hcell⟩ := hv.form
 have hwb : wb < w.heap.size := World.block_lt_of_cell? _ _ hc
 have HCL : Hid _ := hcell
 have HNE : Hid _ := hne
 have HIN : Hid (∀ p : Pt, ∀ mm : Int, (0 <= mm /\ mm <= 4611686018427387903) -> ∀ w', Calls Tryz.prog 62 #[p.v, .int .i64 mm] w' fun e W => e = .returned (.bool (p.inB mm)) /\ Below w'.heap.size w' W) := fun p mm h w' => rin6_any p mm w' h
 obtain ⟨i0, hii, hiz, hisz, hib⟩ := info_parts point_info
 have HI : Hid _ := And.intro hii (And.intro hiz (And.intro hisz hib))
 clear hii hiz hisz hib hv hcell hne
 have HTU0 : Hid _ := fun (x : Pt) (w' : World) (g : Bool) => rvturn_pt wb 0 g m x w'
 have HDV : Hid (∀ p, m.dirV p = ((m.dirT p).quo 4096).short) := fun p => rfl
 have HDT : Hid (∀ p, m.dirT p = (m.turn (p.long.times 4096)).getD Pt.O /\ m.dirB p = (m.turn (p.long.times 4096)).isNone) := fun p => ⟨rfl, rfl⟩
 have W0 : Hid (WS w (w.heap.size + 1) (w.alloc (.cells #[.int .i64 m.a0, .int .i64 m.a1, .int .i64 m.a2, .int .i64 m.a3, .int .i64 m.a4, .int .i64 m.a5, .int .i64 m.a6, .int .i64 m.a7, .int .i64 m.a8] 105)) wb f (.slice none 0 0) []) := ⟨(Leaves.refl _ _).alloc _, c_after (n_after _ _) hc, f_after (n_after _ _) hc hf, World.ownsRow_nil _ _ _ _, hwb, by omega⟩
 have M0 : Hid (Cells (w.alloc (.cells #[.int .i64 m.a0, .int .i64 m.a1, .int .i64 m.a2, .int .i64 m.a3, .int .i64 m.a4, .int .i64 m.a5, .int .i64 m.a6, .int .i64 m.a7, .int .i64 m.a8] 105)) w.heap.size [.int .i64 m.a0, .int .i64 m.a1, .int .i64 m.a2, .int .i64 m.a3, .int .i64 m.a4, .int .i64 m.a5, .int .i64 m.a6, .int .i64 m.a7, .int .i64 m.a8]) := Cells.new _ _ _
 clear hc hf
 obtain ⟨mb, hmb⟩ : ∃ b, b = w.heap.size := ⟨_, rfl⟩
 obtain ⟨w1, hw1⟩ : ∃ w1, w1 = w.alloc (.cells #[.int .i64 m.a0, .int .i64 m.a1, .int .i64 m.a2, .int .i64 m.a3, .int .i64 m.a4, .int .i64 m.a5, .int .i64 m.a6, .int .i64 m.a7, .int .i64 m.a8] 105) := ⟨_, rfl⟩
 rw [<- hw1] at W0 M0
 rw [<- hmb] at M0 W0
 have hmw : mb ≠ wb := by omega
 have hwm : w.heap.size <= mb := by omega
 unfold M9.v
 go_enter Tryz.func67, Tryz.ntmps67
 go_wp2_with (fail)
 rw [<- hw1, <- hmb]
 clear hw1 hmb
 go_loopg [8, 9] Ls.length (fun gm s8 s9 wr => ∃ (i : Nat) (g : Bool) (u : Value), s9 = .int .i64 (i : Int) /\ s8 = u /\ i <= Ls.length /\ gm = Ls.length - i /\ Hid (WS w (mb + 1) wr wb g u (dirsK (fun k => m.dirV (pt Ls k)) i)) /\ Hid (Cells wr mb [.int .i64 m.a0, .int .i64 m.a1, .int .i64 m.a2, .int .i64 m.a3, .int .i64 m.a4, .int .i64 m.a5, .int .i64 m.a6, .int .i64 m.a7, .int .i64 m.a8]) /\ Hid (g = (f || anyK (fun k => m.dirB (pt Ls k)) i)) /\ Hid (∀ j, j < i -> (pt Ls j).inB 1048576 = true))
 case atStart => exact ⟨0, f, _, rfl, rfl, Nat.zero_le _, rfl, W0, M0, by show _ = _; simp [anyK], fun j hj => absurd hj (by omega)⟩
 case round =>
  clear W0 M0
  obtain ⟨i, g, u, rfl, rfl, hi, hgm, HWS, HMB, HGB, HAL⟩ := hrel
  have HG1 : Hid _ := hgm
  clear hgm
  obtain ⟨uo, uc, hu⟩ := rowp_form HWS.out.own
  subst hu
  by_cases hit : i < Ls.length
  ·obtain ⟨g7, f7, rfl, x0, x1, x2⟩ := HCL.out i hit
   have hg7 : g7 ≠ wb := HNE.out ⟨g7, f7, none⟩ _ _ rfl (fun e => by rw [e] at hit; simp at hit)
   have x0 := (HWS.out.lv.other ⟨g7, f7 + i * 3, none⟩ (World.block_lt_of_cell? _ _ x0) hg7).1.trans x0
   have x1 := (HWS.out.lv.other ⟨g7, f7 + i * 3 + 1, none⟩ (World.block_lt_of_cell? _ _ x1) hg7).1.trans x1
   have x2 := (HWS.out.lv.other ⟨g7, f7 + i * 3 + 2, none⟩ (World.block_lt_of_cell? _ _ x2) hg7).1.trans x2
   have HMEM : Hid _ := pt_mem hit
   have HK1 : Hid (dirsK (fun k => m.dirV (pt Ls k)) (i + 1) = if m.dirV (pt Ls i) = Pt.O then dirsK (fun k => m.dirV (pt Ls k)) i else dirsK (fun k => m.dirV (pt Ls k)) i ++ [m.dirV (pt Ls i)]) := by
    show _ = _
    by_cases h : m.dirV (pt Ls i) = Pt.O
    ·rw [if_pos h]; exact dirsK_no _ _ h
    ·rw [if_neg h]; exact dirsK_yes _ _ h
   have HK2 : Hid (anyK (fun k => m.dirB (pt Ls k)) (i + 1) = (anyK (fun k => m.dirB (pt Ls k)) i || m.dirB (pt Ls i))) := rfl
   have hlm : (dirsK (fun k => m.dirV (pt Ls k)) i).length < 1099511627776 := by have := dirsK_length (fun k => m.dirV (pt Ls k)) i; omega
   have HAL1 : Hid ((pt Ls i).inB 1048576 = true -> ∀ j, j < i + 1 -> (pt Ls j).inB 1048576 = true) := fun h j hj => by
    by_cases e : j = i
    ·subst e; exact h
    ·exact HAL.out j (by omega)
   generalize hp : pt Ls i = p at *
   have HP : Hid _ := hp
   clear hp
   have HI1 : Hid _ := HIN.out p 1048576 (by decide)
   have HI2 : Hid _ := HIN.out p 524288 (by decide)
   obtain ⟨px, py, pz⟩ := p
   unfold Pt.v at HI1 HI2
   dsimp only at x0 x1 x2 HI1 HI2
   go_wp2_with (fail)
   refine Calls.mono (HI1.out _) ?_
   clear HI1
   rintro e V1 ⟨rfl, hb⟩
   have x0 := c_after hb x0
   have x1 := c_after hb x1
   have x2 := c_after hb x2
   have HWS : Hid _ := HWS.out.step hb
   have HMB : Hid _ := Cells.step HMB.out hb
   clear hb
   cases hin : Pt.inB ⟨px, py, pz⟩ 1048576 with
   | false =>
    clear HI2
    go_wp2_with (fail)
    refine bodyPost_ret (v := .tuple #[.slice none 0 0, .bool false]) (by simp [results, Tryz.results67, go_sem]) rfl ?_
    refine Or.inr ⟨g, ⟨_, HMEM.out, hin⟩, rfl, ?_⟩
    exact ⟨HWS.out.lv, HWS.out.fl, HWS.out.ff, World.ownsRow_nil _ _ _ _, HWS.out.hw, Nat.le_refl _⟩
   | true =>
    go_wp2_with (fail)
    refine Calls.mono (HI2.out _) ?_
    clear HI2 x0 x1 x2
    rintro e V2 ⟨rfl, hb⟩
    obtain ⟨pb, hpb⟩ : ∃ b, b = V1.heap.size := ⟨_, rfl⟩
    have HUP : Hid ((Value.slice uo (dirsK (fun k => m.dirV (pt Ls k)) i).length uc).ownBlock ≠ some pb) := fun e => by have := (HWS.out.own.lt pb e).2; omega
    have hpw : w.heap.size <= pb := by have := HWS.out.lv.size; omega
    have hpm : mb ≠ pb := by have := Cells.lt HMB.out; omega
    have hb9 := b_step (n_after V1 (.cells #[.int .i64 px, .int .i64 py, .int .i64 pz] 23)) hb
    have HWS : Hid _ := HWS.out.step hb9
    have HMB : Hid _ := Cells.step HMB.out hb9
    have HBX : Hid (Box3 V2 pb ⟨px, py, pz⟩) := by show Box3 _ _ _; rw [hpb]; exact (Box3.new V1 px py pz _).step hb
    rw [<- hpb]
    clear hb hb9 hpb
    go_upto_block 2 with fail
    go_cut [12] from 34 to 51 (fun s12 wx => ∃ q : Pt, q = Pt.long ⟨px, py, pz⟩ /\ Hid (Box3 wx pb q) /\ Hid (WS w (mb + 1) wx wb g (.slice uo (dirsK (fun k => m.dirV (pt Ls k)) i).length uc) (dirsK (fun k => m.dirV (pt Ls k)) i)) /\ Hid (Cells wx mb [.int .i64 m.a0, .int .i64 m.a1, .int .i64 m.a2, .int .i64 m.a3, .int .i64 m.a4, .int .i64 m.a5, .int .i64 m.a6, .int .i64 m.a7, .int .i64 m.a8]))
    case first =>
     by_cases hz : (⟨px, py, pz⟩ : Pt) = Pt.O
     ·simp only [Pt.O, Pt.mk.injEq] at hz
      obtain ⟨rfl, rfl, rfl⟩ := hz
      obtain ⟨c0, c1, c2, f0, f1, f2⟩ := HBX.out
      dsimp only at c0 c1 c2
      have e5 : Pt.inB ⟨0, 0, 0⟩ 524288 = true := by decide
      rw [e5]
      go_wp2_with (fail)
      go_loopg [12] 1 (fun gk2 s12 wr2 => s12 = .bool true /\ wr2 = V2)
      case atStart => exact ⟨rfl, rfl⟩
      case round =>
       obtain ⟨rfl, rfl⟩ := hrel
       go_wp2_with (fail)
       go_meet
       case rel => exact ⟨_, by decide, HBX, HWS, HMB⟩
     ·have HB0 : Hid (Pt.big ⟨px, py, pz⟩ (20 - 20)) := big_zero hz
      have HLO : Hid (Pt.long ⟨px, py, pz⟩ = longF 20 ⟨px, py, pz⟩) := by show _ = _; unfold Pt.long; rw [if_neg hz]
      go_wp2_with (fail)
      go_loopg [12] 20 (fun gk s12 wr2 => ∃ q : Pt, s12 = .bool (q.inB 524288) /\ Hid (Box3 wr2 pb q) /\ Hid (WS w (mb + 1) wr2 wb g (.slice uo (dirsK (fun k => m.dirV (pt Ls k)) i).length uc) (dirsK (fun k => m.dirV (pt Ls k)) i)) /\ Hid (Cells wr2 mb [.int .i64 m.a0, .int .i64 m.a1, .int .i64 m.a2, .int .i64 m.a3, .int .i64 m.a4, .int .i64 m.a5, .int .i64 m.a6, .int .i64 m.a7, .int .i64 m.a8]) /\ gk <= 20 /\ Hid (longF gk q = Pt.long ⟨px, py, pz⟩) /\ Hid (q.big (20 - gk)))
      case atStart => exact ⟨⟨px, py, pz⟩, rfl, HBX, HWS, HMB, Nat.le_refl _, HLO.out.symm, HB0⟩
      case round =>
       clear HBX HWS HMB HB0 HLO
       obtain ⟨q, rfl, b0, hW, hM, hg, HF, HI⟩ := hrel
       have hG : Hid _ := hg
       clear hg
       cases hq : q.inB 524288 with
       | false =>
        have E9 : Hid (q = Pt.long ⟨px, py, pz⟩) := by show _ = _; rw [<- HF.out]; cases gk <;> simp [longF, hq]
        clear HF HI
        go_wp2_with (fail)
        go_meet
        case rel => exact ⟨q, E9.out, b0, hW, hM⟩
       | true =>
        have h1g := big_lt hq HI.out
        obtain ⟨g', hg'⟩ : ∃ g', gk = g' + 1 := ⟨gk - 1, by omega⟩
        subst hg'
        obtain ⟨s1, s2, s3⟩ := long_step hq HI.out hG.out
        obtain ⟨x2, y2, z2, e1, e2, e3, e4⟩ := plus_two q
        have HJ : Hid (longF g' ⟨x2, y2, z2⟩ = Pt.long ⟨px, py, pz⟩ /\ Pt.big ⟨x2, y2, z2⟩ (20 - g')) := by show _ /\ _; rw [<- e1, <- s1]; exact ⟨HF.out, s2⟩
        have hnz := big_nz HI.out
        have HI2 : Hid _ := HIN.out ⟨x2, y2, z2⟩ 524288 (by decide)
        unfold Pt.v at HI2
        dsimp only at HI2
        clear HF HI s1 s2 s3 e1 h1g hq
        obtain ⟨c0, c1, c2, f0, f1, f2⟩ := b0.out
        go_upto_region 10 with fail
        go_cut [39] from 34 to 39 (fun s39 wx => s39 = .bool true /\ wx = wr)
        case first =>
         clear HI2 hW hM b0 HJ e2 e3 e4
         go_wp2_with (fail)
         all_goals first
          | (exfalso; exact hnz (by assumption) (by assumption) (by assumption))
          | (go_meet; case rel => exact ⟨rfl, rfl⟩)
        case rest =>
         obtain ⟨rfl, e9⟩ := hcut
         subst e9
         clear hnz
         have hM9 : Hid _ := Cells.put3w hM.out hpm x2 y2 z2
         have hW9 : Hid _ := hW.out.set3 hpw HUP.out x2 y2 z2
         have b9 : Hid _ := b0.out.set x2 y2 z2
         clear b0 hM hW
         go_wp2_with (fail)
         refine Calls.mono (HI2.out _) ?_
         clear c0 c1 c2 f0 f1 f2
         clear HI2
         rintro e V4 ⟨rfl, hb⟩
         have b9 : Hid _ := b9.out.step hb
         have hW9 : Hid _ := hW9.out.step hb
         have hM9 : Hid _ := Cells.step hM9.out hb
         clear hb
         go_wp2_with (fail)
         go_roundg g'
         case rel => exact ⟨⟨x2, y2, z2⟩, rfl, b9, hW9, hM9, by have := hG.out; omega, HJ.out.1, HJ.out.2⟩
         case measure => omega
    case rest =>
     obtain ⟨q, e9, HPB, HWS, HMB⟩ := hcut
     obtain ⟨V, hV⟩ : ∃ V, V = wc := ⟨_, rfl⟩
     rw [<- hV] at HPB HWS HMB ⊢
     clear hV
     have HLM : Hid (∀ {X : World} {u : Value} {g2 : Bool} {M2 : List Pt}, WS w (mb + 1) X wb g2 u M2 -> dirsK (fun k => m.dirV (pt Ls k)) (i + 1) = M2 -> Cells X mb [.int .i64 m.a0, .int .i64 m.a1, .int .i64 m.a2, .int .i64 m.a3, .int .i64 m.a4, .int .i64 m.a5, .int .i64 m.a6, .int .i64 m.a7, .int .i64 m.a8] -> g2 = (f || anyK (fun k => m.dirB (pt Ls k)) (i + 1)) -> ∃ (i2 : Nat) (g : Bool) (u2 : Value), (Value.int .i64 ((i + 1 : Nat) : Int)) = .int .i64 (i2 : Int) /\ u = u2 /\ i2 <= Ls.length /\ Ls.length - (i + 1) = Ls.length - i2 /\ Hid (WS w (mb + 1) X wb g u2 (dirsK (fun k => m.dirV (pt Ls k)) i2)) /\ Hid (Cells X mb [.int .i64 m.a0, .int .i64 m.a1, .int .i64 m.a2, .int .i64 m.a3, .int .i64 m.a4, .int .i64 m.a5, .int .i64 m.a6, .int .i64 m.a7, .int .i64 m.a8]) /\ Hid (g = (f || anyK (fun k => m.dirB (pt Ls k)) i2)) /\ Hid (∀ j, j < i2 -> (pt Ls j).inB 1048576 = true)) := by
      intro X u g2 M2 h1 h2 h3 h4
      exact ⟨i + 1, g2, u, rfl, rfl, by omega, rfl, by rw [h2]; exact h1, h3, h4, HAL1.out hin⟩
     obtain ⟨M, hM⟩ : ∃ M, M = dirsK (fun k => m.dirV (pt Ls k)) i := ⟨_, rfl⟩
     rw [<- hM] at HWS HUP HK1 hlm ⊢
     clear hM
     obtain ⟨u, hu⟩ : ∃ u, u = Value.slice uo M.length uc := ⟨_, rfl⟩
     rw [<- hu] at HWS HUP ⊢
     have HU : Hid _ := hu
     clear hu
     obtain ⟨nq, hn⟩ : ∃ n, n = q.times 4096 := ⟨_, rfl⟩
     obtain ⟨vq, hvq⟩ : ∃ v, v = (m.turn nq).getD Pt.O := ⟨_, rfl⟩
     obtain ⟨bd, hbd⟩ : ∃ b, b = (m.turn nq).isNone := ⟨_, rfl⟩
     have HDP : Hid (m.dirV ⟨px, py, pz⟩ = (vq.quo 4096).short /\ m.dirB ⟨px, py, pz⟩ = bd) := by
      show _ /\ _
      rw [HDV.out, (HDT.out _).1, (HDT.out _).2, <- e9, <- hn, <- hvq, <- hbd]; exact ⟨rfl, rfl⟩
     have HTI : Hid _ := fun w' => rtimes6_any q 4096 w'
     have HTU : Hid _ := fun (w' : World) (g : Bool) => HTU0.out nq w' g
     rw [<- hn] at HTI
     rw [<- hvq, <- hbd] at HTU
     have HSH : Hid _ := fun w' => rshort_any (vq.quo 4096) w'
     rw [<- HDP.out.1] at HSH
     have hwV : wb < V.heap.size := World.block_lt_of_cell? _ _ HWS.out.fl
     have hpn : pb ≠ wb := by omega
     have HUV : Hid (∀ b, u.ownBlock = some b -> b < V.heap.size) := fun b e => (HWS.out.own.lt b e).2
     have hmV : mb < V.heap.size := Cells.lt HMB.out
     have hpV : pb < V.heap.size := HPB.out.lt
     have hsV : w.heap.size <= V.heap.size := HWS.out.lv.size
     clear hn hvq hbd e9
     obtain ⟨sp, hsp⟩ : ∃ s, s = m.dirV ⟨px, py, pz⟩ := ⟨_, rfl⟩
     rw [<- hsp] at HSH HK1
     rw [HDP.out.2] at HK2
     clear HDP hsp HDV HDT HTU0 HIN HCL HNE
     rw [show vq.quo 4096 = ⟨wrap64 (vq.x.tdiv 4096), wrap64 (vq.y.tdiv 4096), wrap64 (vq.z.tdiv 4096)⟩ from rfl] at HSH
     obtain ⟨qx, qy, qz⟩ := q
     obtain ⟨nx, ny, nz⟩ := nq
     obtain ⟨vx, vy, vz⟩ := vq
     unfold Pt.v at HTI HTU HSH
     unfold M9.v at HTU
     dsimp only at HTI HTU HSH
     go_upto_region 13 with fail
     go_cut [13] from 52 to 56 (fun s13 wx => ∃ b3, s13 = .pointer (some ⟨b3, 0, none⟩) /\ Hid (WS w (mb + 1) wx wb (g || bd) u M) /\ Hid (Cells wx mb [.int .i64 m.a0, .int .i64 m.a1, .int .i64 m.a2, .int .i64 m.a3, .int .i64 m.a4, .int .i64 m.a5, .int .i64 m.a6, .int .i64 m.a7, .int .i64 m.a8]) /\ Cells wx b3 [.int .i64 vx, .int .i64 vy, .int .i64 vz])
     case first =>
      obtain ⟨wO, rfl⟩ : ∃ wO, wO = w := ⟨_, rfl⟩
      refine RV.region_by (fun j v w => match j with | 0 => v = .pointer (some ⟨wb, 0, none⟩) | 1 => v = .agg #[.int .i64 m.a0, .int .i64 m.a1, .int .i64 m.a2, .int .i64 m.a3, .int .i64 m.a4, .int .i64 m.a5, .int .i64 m.a6, .int .i64 m.a7, .int .i64 m.a8] | 2 => v = .agg #[.int .i64 qx, .int .i64 qy, .int .i64 qz] | 3 => v = .agg #[.int .i64 nx, .int .i64 ny, .int .i64 nz] | 4 => v = .agg #[.int .i64 vx, .int .i64 vy, .int .i64 vz] | 5 => True | 6 => True | _ => True) (fun γ L w9 => WS wO (mb + 1) w9 wb (g || (L 4 && bd)) u M /\ Cells w9 mb [.int .i64 m.a0, .int .i64 m.a1, .int .i64 m.a2, .int .i64 m.a3, .int .i64 m.a4, .int .i64 m.a5, .int .i64 m.a6, .int .i64 m.a7, .int .i64 m.a8] /\ Box3 w9 pb ⟨qx, qy, qz⟩ /\ RV.Pend V 27 5 6 #[.int .i64 vx, .int .i64 vy, .int .i64 vz] γ L w9 /\ V.heap.size <= w9.heap.size) (by kernel_rfl) (by kernel_rfl) (by kernel_rfl) (by kernel_rfl) ?_ ?_ ?_
      ·have b9 : Below V.heap.size V V.drew := (Below.refl _ _).drew; simp only [Bool.false_and, Bool.or_false]; exact ⟨HWS.out.step b9, HMB.out.step b9, HPB.out.step b9, RV.Pend.start rfl, Nat.le_refl _⟩
      ·generalize hD : dstOf _ = D
       generalize hWA : waitsFor _ = WA
       generalize hZ : Act.mk _ _ = Z
       refine RV.AllDo.name ?_
       intro R hR
       have d0 : D 0 = some 52 := by rw [<- hD]; rfl
       have d1 : D 1 = some 53 := by rw [<- hD]; rfl
       have d2 : D 2 = some 54 := by rw [<- hD]; rfl
       have d3 : D 3 = some 55 := by rw [<- hD]; rfl
       have d4 : D 4 = some 56 := by rw [<- hD]; rfl
       have d5 : D 5 = some 13 := by rw [<- hD]; rfl
       have r0 : ∀ v w, R 0 v w = (v = .pointer (some ⟨wb, 0, none⟩)) := fun v w => by rw [hR]; rfl
       have r1 : ∀ v w, R 1 v w = (v = .agg #[.int .i64 m.a0, .int .i64 m.a1, .int .i64 m.a2, .int .i64 m.a3, .int .i64 m.a4, .int .i64 m.a5, .int .i64 m.a6, .int .i64 m.a7, .int .i64 m.a8]) := fun v w => by rw [hR]; rfl
       have r2 : ∀ v w, R 2 v w = (v = .agg #[.int .i64 qx, .int .i64 qy, .int .i64 qz]) := fun v w => by rw [hR]; rfl
       have r3 : ∀ v w, R 3 v w = (v = .agg #[.int .i64 nx, .int .i64 ny, .int .i64 nz]) := fun v w => by rw [hR]; rfl
       have r4 : ∀ v w, R 4 v w = (v = .agg #[.int .i64 vx, .int .i64 vy, .int .i64 vz]) := fun v w => by rw [hR]; rfl
       have r5 : ∀ v w, R 5 v w = (True) := fun v w => by rw [hR]; rfl
       have r6 : ∀ v w, R 6 v w = (True) := fun v w => by rw [hR]; rfl
       have F0_ : ∀ j, D j ≠ some 0 := by rw [<- hD]; exact RV.dst_free (by kernel_rfl)
       have Z0_ : Z.tmps[0]? = some (.pointer (some ⟨wb, 0, none⟩)) := by rw [<- hZ]; rfl
       have F4_ : ∀ j, D j ≠ some 4 := by rw [<- hD]; exact RV.dst_free (by kernel_rfl)
       have Z4_ : Z.tmps[4]? = some (.pointer (some ⟨mb, 0, none⟩)) := by rw [<- hZ]; rfl
       have F11_ : ∀ j, D j ≠ some 11 := by rw [<- hD]; exact RV.dst_free (by kernel_rfl)
       have Z11_ : Z.tmps[11]? = some (.pointer (some ⟨pb, 0, none⟩)) := by rw [<- hZ]; rfl
       have K : ∀ j v w w', R j v w -> R j v w' := by rw [hR]; intro j v w w' h; exact h
       have A_6_5 : WA 6 5 := by rw [<- hWA]; exact ⟨_, rfl, ⟨5, .data⟩, by simp, rfl, rfl⟩
       clear hD hWA hZ hR
       refine RV.cc 0 (RV.dp (fun γ v L w hl h => ⟨by rw [RV.mn (L := L) (i := 0) (j := 4) (by decide)]; exact h.1, h.2.1, h.2.2.1, h.2.2.2.1.other v (by decide) (by decide), h.2.2.2.2⟩) (fun γ L a w hH hl hA => by have e0 := ((hH.rest 0 F0_).trans Z0_); exact ⟨.pointer (some ⟨wb, 0, none⟩), by simp [execOp, go_sem, e0], (r0 _ _).mpr rfl⟩)) ?_
       refine RV.cc 1 (RV.dp (fun γ v L w hl h => ⟨by rw [RV.mn (L := L) (i := 1) (j := 4) (by decide)]; exact h.1, h.2.1, h.2.2.1, h.2.2.2.1.other v (by decide) (by decide), h.2.2.2.2⟩) (fun γ L a w hH hl hA => by have e0 := ((hH.rest 4 F4_).trans Z4_); have wz0 := (hH.glob.2.1 0 _ rfl).1; have wz1 := (hH.glob.2.1 1 _ rfl).1; have wz2 := (hH.glob.2.1 2 _ rfl).1; have wz3 := (hH.glob.2.1 3 _ rfl).1; have wz4 := (hH.glob.2.1 4 _ rfl).1; have wz5 := (hH.glob.2.1 5 _ rfl).1; have wz6 := (hH.glob.2.1 6 _ rfl).1; have wz7 := (hH.glob.2.1 7 _ rfl).1; have wz8 := (hH.glob.2.1 8 _ rfl).1; exact ⟨.agg #[.int .i64 m.a0, .int .i64 m.a1, .int .i64 m.a2, .int .i64 m.a3, .int .i64 m.a4, .int .i64 m.a5, .int .i64 m.a6, .int .i64 m.a7, .int .i64 m.a8], by simp [execOp, go_sem, e0, wz0, wz1, wz2, wz3, wz4, wz5, wz6, wz7, wz8], (r1 _ _).mpr rfl⟩)) ?_
       refine RV.cc 2 (RV.dp (fun γ v L w hl h => ⟨by rw [RV.mn (L := L) (i := 2) (j := 4) (by decide)]; exact h.1, h.2.1, h.2.2.1, h.2.2.2.1.other v (by decide) (by decide), h.2.2.2.2⟩) (fun γ L a w hH hl hA => by have e0 := ((hH.rest 11 F11_).trans Z11_); have wz0 := hH.glob.2.2.1.c0; have wz1 := hH.glob.2.2.1.c1; have wz2 := hH.glob.2.2.1.c2; exact ⟨.agg #[.int .i64 qx, .int .i64 qy, .int .i64 qz], by simp [execOp, go_sem, e0, wz0, wz1, wz2], (r2 _ _).mpr rfl⟩)) ?_
       refine RV.cc 3 (RV.dc (fun γ L a w hH hl hA => by have e0 := hH.got d2 r2 (hA ⟨2, .data⟩ (by simp) rfl); refine ⟨65, #[.agg #[.int .i64 qx, .int .i64 qy, .int .i64 qz], .int .i64 4096], by simp [go_sem, e0], Calls.mono (HTI.out w) ?_⟩; rintro e w2 ⟨rfl, hb⟩; have hG := hH.glob; exact ⟨_, rfl, (r3 _ _).mpr rfl, fun j v _ h => K j v _ _ h, by rw [RV.mn (L := L) (i := 3) (j := 4) (by decide)]; exact hG.1.step hb, hG.2.1.step hb, hG.2.2.1.step hb, (hG.2.2.2.1.below hb).other _ (by decide) (by decide), Nat.le_trans hG.2.2.2.2 hb.size⟩)) ?_
       refine RV.cc 4 (RV.dc (fun γ L a w hH hl hA => by have e0 := hH.got d0 r0 (hA ⟨0, .data⟩ (by simp) rfl); have e1 := hH.got d1 r1 (hA ⟨1, .data⟩ (by simp) rfl); have e2 := hH.got d3 r3 (hA ⟨3, .data⟩ (by simp) rfl); have hG := hH.glob; rw [hl] at hG; refine ⟨64, #[.pointer (some ⟨wb, 0, none⟩), .agg #[.int .i64 m.a0, .int .i64 m.a1, .int .i64 m.a2, .int .i64 m.a3, .int .i64 m.a4, .int .i64 m.a5, .int .i64 m.a6, .int .i64 m.a7, .int .i64 m.a8], .agg #[.int .i64 nx, .int .i64 ny, .int .i64 nz]], by simp [go_sem, e0, e1, e2], Calls.mono (HTU.out w _ hG.1.fl hG.1.ff) ?_⟩; rintro e w2 ⟨rfl, A⟩; have A9 := A.out; exact ⟨_, rfl, (r4 _ _).mpr rfl, fun j v _ h => K j v _ _ h, by rw [RV.more_self]; have h8 := hG.1.after A9; simpa using h8, hG.2.1.beside A9 hmw, hG.2.2.1.after A9 hpn, (hG.2.2.2.1.after A9 hwV).other _ (by decide) (by decide), Nat.le_trans hG.2.2.2.2 A9.size⟩)) ?_
       refine RV.cc 5 (RV.does_step (fun γ L a w hH hl hA => by have hG := hH.glob; have h12 : L 6 = false := RV.ny hH A_6_5 hl; exact ⟨.pointer (some ⟨w.heap.size, 0, none⟩), w.alloc (.cells #[.int .i64 0, .int .i64 0, .int .i64 0] 27), by simp [execOp, go_sem], (r5 _ _).mpr trivial, fun j v _ h => K j v _ _ h, by rw [RV.mn (L := L) (i := 5) (j := 4) (by decide)]; exact hG.1.step (n_after _ _), hG.2.1.step (n_after _ _), hG.2.2.1.step (n_after _ _), RV.Pend.made _ rfl hG.2.2.2.2 h12 (by decide), by rw [World.size_alloc]; have h8 := hG.2.2.2.2; omega⟩)) ?_
       refine RV.cc 6 (RV.does_store (fun γ L a w hH hl hA => by have l0 : L 5 = true := hA ⟨5, .data⟩ (by simp) rfl; have e0 := hH.slot 5 13 d5 l0; have g0 := hH.holds 5 l0; rw [r5] at g0; have e1 := hH.got d4 r4 (hA ⟨4, .data⟩ (by simp) rfl); have hG := hH.glob; obtain ⟨b, cs, hb1, hb2, hb3, hb4, _⟩ := hG.2.2.2.1 l0; rw [hb1] at e0; obtain ⟨u0, u1, u2, rfl⟩ := arr3' hb4; have wz0 : w.cell? ⟨b, 0, none⟩ = some u0 := (by simp [World.cell?, hb3]); have wz1 : w.cell? ⟨b, 1, none⟩ = some u1 := (by simp [World.cell?, hb3]); have wz2 : w.cell? ⟨b, 2, none⟩ = some u2 := (by simp [World.cell?, hb3]); have zf : ∀ o, w.frozen? ⟨b, o, none⟩ = false := fun o => (by simp [World.frozen?, hb3]); have n1 : mb ≠ b := (by omega); have n2 : b ≠ pb := (by omega); have n5 : u.ownBlock ≠ some b := (fun e => by have h7 := HUV.out b e; omega); exact ⟨(((w.setCell ⟨b, 0, none⟩ (.int .i64 vx)).setCell ⟨b, 1, none⟩ (.int .i64 vy)).setCell ⟨b, 2, none⟩ (.int .i64 vz)), by simp [execOp, go_sem, e0, e1, wz0, wz1, wz2, zf], (r6 _ _).mpr trivial, fun j v _ h => K j v _ _ h, by rw [RV.mn (L := L) (i := 6) (j := 4) (by decide)]; exact hG.1.set3 (by omega) n5 vx vy vz, ((Cells.apart hG.2.1 n1 0 _).apart n1 1 _).apart n1 2 _, hG.2.2.1.other n2 vx vy vz, RV.Pend.filled hb1 hb2 (by have q0 := Go.heap_setCell_same w b 0 _ _ (.int .i64 vx) hb3; have q1 := Go.heap_setCell_same _ b 1 _ _ (.int .i64 vy) q0; have q2 := Go.heap_setCell_same _ b 2 _ _ (.int .i64 vz) q1; simpa using q2) (by decide) _, by have h8 := hG.2.2.2.2; simpa [World.setCell] using h8⟩)) ?_
       exact RV.AllDo.nil
      ·intro γ a5 w5 L9 hL hLo hH
       have ha := RV.held_act hH hL (by kernel_rfl) (by kernel_rfl)
       have hG := hH.glob
       rw [hL 4 (by decide)] at hG
       obtain ⟨b3, cs, hb1, hb2, hb3, _, hb5⟩ := hG.2.2.2.1 (hL 5 (by decide))
       rw [hb5 (hL 6 (by decide))] at hb3
       rw [ha]
       clear ha hH hL hLo hb5
       simp only [RV.putAll, Act.put, List.setIfInBounds_toArray, List.set_cons_zero, List.set_cons_succ, Nat.zero_add, Nat.reduceAdd]
       rw [hb1]
       have C3 : Cells w5 b3 [.int .i64 vx, .int .i64 vy, .int .i64 vz] := fun i v e => ⟨by simp [World.cell?, hb3]; exact e, by simp [World.frozen?, hb3]⟩
       have HW9 : Hid (WS wO (mb + 1) w5 wb (g || bd) u M) := by show WS _ _ _ _ _ _ _; have h9 := hG.1; simpa using h9
       have HM9 : Hid (Cells w5 mb [.int .i64 m.a0, .int .i64 m.a1, .int .i64 m.a2, .int .i64 m.a3, .int .i64 m.a4, .int .i64 m.a5, .int .i64 m.a6, .int .i64 m.a7, .int .i64 m.a8]) := hG.2.1
       clear hG hb1 hb3
       go_wp2_with (fail)
       go_meet
       case rel => exact ⟨b3, rfl, HW9, HM9, C3⟩
     case rest =>
      clear HWS HMB HPB HTI HTU HUV
      obtain ⟨b3, rfl, HWS, HMB, C3⟩ := hcut
      obtain ⟨c0, d0⟩ := C3 0 _ rfl
      obtain ⟨c1, d1⟩ := C3 1 _ rfl
      obtain ⟨c2, d2⟩ := C3 2 _ rfl
      clear C3
      go_wp2_with (fail)
      refine Calls.mono (HSH.out _) ?_
      rintro e V5 ⟨rfl, hb⟩
      have HWS : Hid _ := HWS.out.step hb
      have HMB : Hid _ := Cells.step HMB.out hb
      clear hb HSH c0 d0 c1 d1 c2 d2
      obtain ⟨sx, sy, sz⟩ := sp
      dsimp only
      go_upto_region 15 with fail
      obtain ⟨V6, hV6⟩ : ∃ X, X = V5.alloc (.cells #[.int .i64 sx, .int .i64 sy, .int .i64 sz] 23) := ⟨_, rfl⟩
      obtain ⟨nb, hnb⟩ : ∃ b, b = V5.heap.size := ⟨_, rfl⟩
      have HB6 : Hid (Box3 V6 nb ⟨sx, sy, sz⟩) := by show Box3 _ _ _; rw [hV6, hnb]; exact Box3.new V5 sx sy sz _
      have HWS : Hid (WS w (mb + 1) V6 wb (g || bd) u M) := by show WS _ _ _ _ _ _ _; rw [hV6]; exact HWS.out.step (n_after _ _)
      have HMB : Hid (Cells V6 mb [.int .i64 m.a0, .int .i64 m.a1, .int .i64 m.a2, .int .i64 m.a3, .int .i64 m.a4, .int .i64 m.a5, .int .i64 m.a6, .int .i64 m.a7, .int .i64 m.a8]) := by show Cells _ _ _; rw [hV6]; exact Cells.step HMB.out (n_after _ _)
      rw [<- hV6, <- hnb]
      clear hV6 hnb
      have HGD : Hid ((g || bd) = (f || anyK (fun k => m.dirB (pt Ls k)) (i + 1))) := by show _ = _; rw [HK2.out, HGB.out, Bool.or_assoc]
      have hu := HU.out
      subst hu
      obtain ⟨c0, c1, c2, f0, f1, f2⟩ := HB6.out
      dsimp only at c0 c1 c2
      by_cases hz : (⟨sx, sy, sz⟩ : Pt) = Pt.O
      ·have HK : Hid (dirsK (fun k => m.dirV (pt Ls k)) (i + 1) = M) := by show _ = _; rw [HK1.out, if_pos hz]
       simp only [Pt.O, Pt.mk.injEq] at hz
       obtain ⟨rfl, rfl, rfl⟩ := hz
       go_wp2_with (fail)
       go_roundg (Ls.length - (i + 1))
       case rel => exact HLM.out HWS.out HK.out HMB.out HGD.out
       case measure => have := HG1.out; omega
      ·have HK : Hid (dirsK (fun k => m.dirV (pt Ls k)) (i + 1) = M ++ [⟨sx, sy, sz⟩]) := by show _ = _; rw [HK1.out, if_neg hz]
       have hnz : sx = 0 -> sy = 0 -> ¬ sz = 0 := fun a b c => hz (by rw [a, b, c]; rfl)
       clear hz
       go_cut [70] from 67 to 70 (fun s70 wx => s70 = .bool true /\ wx = V6)
       case first =>
        clear HWS HMB HB6 HK HGD HLM HK1 HK2
        go_wp2_with (fail)
        all_goals first
         | (exfalso; exact hnz (by assumption) (by assumption) (by assumption))
         | (go_meet; case rel => exact ⟨rfl, rfl⟩)
       case rest =>
        obtain ⟨rfl, e9⟩ := hcut
        subst e9
        clear hnz
        have HUM : Hid (∀ r, (Value.slice uo M.length uc).ownBlock = some r -> r ≠ mb) := fun r e => by have := (HWS.out.own.lt r e).1; omega
        have hs6 : mb + 1 <= wc.heap.size := by have := Cells.lt HMB.out; omega
        go_wp2_with (at_builtin; refine wpList_append_own _ rfl _ _ 24 rfl (mb + 1) 23 i0 _ 3 24 Tryz.underlying24 HI.out.1 HI.out.2.1 HI.out.2.2.1 HI.out.2.2.2 rfl (by decide) _ _ _ rfl (HWS.out.step (n_after _ (.cells #[.int .i64 sx, .int .i64 sy, .int .i64 sz] 23))).own ⟨wc.heap.size, 0, none⟩ 1 1 [.int .i64 sx, .int .i64 sy, .int .i64 sz] rfl rfl (news_at (heap_alloc_new wc _)) (by intro u hu; simp at hu; rcases hu with rfl | rfl | rfl <;> rfl) (by unfold maxLen; omega) (by omega) (by simp; omega) ?_; intro u9 V2 r8 g8 _; obtain ⟨gg8, kk8, rfl⟩ := ownsRow_succ r8; have HWS2 : Hid _ := (HWS.out.step (n_after _ _)).app (p := ⟨sx, sy, sz⟩) r8 g8; have HMB2 : Hid _ := (Cells.step HMB.out (n_after _ _)).grew g8 HUM.out; clear r8 g8 c0 c1 c2 f0 f1 f2 HWS HMB HB6)
        go_roundg (Ls.length - (i + 1))
        case rel => exact HLM.out HWS2.out HK.out HMB2.out HGD.out
        case measure => have := HG1.out; omega
  ·obtain rfl : i = Ls.length := by omega
   have e9 : dirsK (fun k => m.dirV (pt Ls k)) Ls.length = m.dirs Ls := by unfold dirsK M9.dirs; rw [firsts_map]
   go_wp2_with (fail)
   refine bodyPost_ret (v := .tuple #[.slice uo (dirsK (fun k => m.dirV (pt Ls k)) Ls.length).length uc, .bool true]) (by simp [results, Tryz.results67, go_sem]) rfl ?_
   refine Or.inl ⟨_, fun q hq => ?_, rfl, ?_⟩
   ·obtain ⟨j, hj, e⟩ := pt_of_mem hq
    rw [<- e]; exact HAL.out j hj
   ·have h9 := HWS.out
    rw [HGB.out, anyK_any] at h9
    rw [<- e9]
    exact h9.le
end
end Go.Proofs.YtffjifhojedmkaaGreat
