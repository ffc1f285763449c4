/- Package vec's product of a vector and a number. -/
import Derived.Test.YtioailboehpcaaaTurn
namespace Go.Proofs.Ytioailboehpcaaa
open Go.RowKit Fx
set_option linter.unusedVariables false

def scale_bad (b off : Nat) (f : Bool) (pa pr po : Nat) (x0 x1 x2 n : Int) (W U : World) : Bool := false || ([(4, false), (5, ((mul (x0) (n)).isNone || (mul (x1) (n)).isNone || (mul (x2) (n)).isNone))] : List (Nat × Bool)).any (·.2)

def scale_sh (b off : Nat) (f : Bool) (pa pr po : Nat) (x0 x1 x2 n : Int) (W U : World) : Nat → Shape
  | 0 => .is (.pointer (some ⟨b, off, none⟩))
  | 1 => .is (.func (.func 40) #[.pointer (some ⟨po, 0, none⟩)] #[])
  | 2 => .is (.agg #[.int .i64 (x0), .int .i64 (x1), .int .i64 (x2)])
  | 3 => .is (.int .i64 (n))
  | 4 => .is (.agg #[.int .i64 (n), .int .i64 (n), .int .i64 (n)])
  | 5 => .is (.agg #[.int .i64 ((mul (x0) (n)).getD 0), .int .i64 ((mul (x1) (n)).getD 0), .int .i64 ((mul (x2) (n)).getD 0)])
  | 6 => .is (.agg #[.int .i64 (cond (scale_bad b off f pa pr po x0 x1 x2 n W U) 0 ((mul (x0) (n)).getD 0)), .int .i64 (cond (scale_bad b off f pa pr po x0 x1 x2 n W U) 0 ((mul (x1) (n)).getD 0)), .int .i64 (cond (scale_bad b off f pa pr po x0 x1 x2 n W U) 0 ((mul (x2) (n)).getD 0))])
  | 7 => .ptr
  | _ => .ptr

def scale_plan (b off : Nat) (f : Bool) (pa pr po : Nat) (x0 x1 x2 n : Int) (W U : World) : Plan where
  W := W
  N := U.heap.size
  p := ⟨b, off, none⟩
  fl := ⟨po, 0, none⟩
  g0 := false
  bad := scale_bad b off f pa pr po x0 x1 x2 n W U
  f := f
  calls := [(4, false), (5, ((mul (x0) (n)).isNone || (mul (x1) (n)).isNone || (mul (x2) (n)).isNone))]
  tl := 6
  st := 7
  r := pr
  res := [.int .i64 (cond (scale_bad b off f pa pr po x0 x1 x2 n W U) 0 ((mul (x0) (n)).getD 0)), .int .i64 (cond (scale_bad b off f pa pr po x0 x1 x2 n W U) 0 ((mul (x1) (n)).getD 0)), .int .i64 (cond (scale_bad b off f pa pr po x0 x1 x2 n W U) 0 ((mul (x2) (n)).getD 0))]
  fixed := [(⟨pa, 0, none⟩, .int .i64 (x0)),
    (⟨pa, 1, none⟩, .int .i64 (x1)),
    (⟨pa, 2, none⟩, .int .i64 (x2))]
  made := []

theorem scale_cn (b off : Nat) (f : Bool) (pa pr po : Nat) (x0 x1 x2 n : Int) (W U : World) : ((scale_plan b off f pa pr po x0 x1 x2 n W U).calls.map (·.1)).Nodup := of_decide_eq_true rfl
theorem scale_mn (b off : Nat) (f : Bool) (pa pr po : Nat) (x0 x1 x2 n : Int) (W U : World) : ((scale_plan b off f pa pr po x0 x1 x2 n W U).made.map (·.i)).Nodup := of_decide_eq_true rfl
theorem scale_bads (b off : Nat) (f : Bool) (pa pr po : Nat) (x0 x1 x2 n : Int) (W U : World) : ((scale_plan b off f pa pr po x0 x1 x2 n W U).bad = true → (scale_plan b off f pa pr po x0 x1 x2 n W U).g0 = true ∨ ∃ c ∈ (scale_plan b off f pa pr po x0 x1 x2 n W U).calls, c.2 = true) ∧ ∀ c ∈ (scale_plan b off f pa pr po x0 x1 x2 n W U).calls, c.2 = true → (scale_plan b off f pa pr po x0 x1 x2 n W U).bad = true :=
  bad_any_of _ rfl

set_option maxHeartbeats 4000000 in
theorem vscale_law (b off : Nat) (f : Bool) (x0 x1 x2 n : Int) (W : World) (hc : W.cell? ⟨b, off, none⟩ = some (.bool f)) (hf : W.frozen? ⟨b, off, none⟩ = false) :
    Calls Try.prog 10 #[.pointer (some ⟨b, off, none⟩), .agg #[.int .i64 (x0), .int .i64 (x1), .int .i64 (x2)], .int .i64 n] W fun e W' => ∃ v0 v1 v2 g, e = .returned (.agg #[.int .i64 (v0), .int .i64 (v1), .int .i64 (v2)]) ∧ Hid (Step3 f (mul x0 n) (mul x1 n) (mul x2 n) v0 v1 v2 g) ∧ Hid (After ⟨b, off, none⟩ g W W') := by
  have hbW : b < W.heap.size := World.block_lt_of_cell? _ _ hc
  go_enter Try.func10, Try.ntmps10
  go_wp2_with (fail)
  obtain ⟨U, hU⟩ : ∃ U, U = (((W.alloc (.cells #[.int .i64 (x0), .int .i64 (x1), .int .i64 (x2)] 23)).alloc (.cells #[.int .i64 0, .int .i64 0, .int .i64 0] 23)).alloc (.cells #[.bool false] 27)) := ⟨_, rfl⟩
  have hUs : U.heap.size = W.heap.size + 3 := by rw [hU]; simp
  have HL : Hid (Leaves ⟨b, off, none⟩ W U) := by show Leaves _ _ _; rw [hU]; exact ((((Leaves.refl _ _).alloc _).alloc _).alloc _)
  have hp : U.cell? ⟨b, off, none⟩ = some (.bool f) := (by rw [hU, World.cell?_alloc_past _ _ _ (by simp; omega), World.cell?_alloc_past _ _ _ (by simp; omega), World.cell?_alloc_past _ _ _ hbW]; exact hc)
  have hpf : U.frozen? ⟨b, off, none⟩ = false := by rw [hU, ((new_after _ _).frozen (by simp; omega)), ((new_after _ _).frozen (by simp; omega)), ((new_after _ _).frozen hbW)]; exact hf
  have ho : U.cell? ⟨W.heap.size + 1 + 1, 0, none⟩ = some (.bool false) := by rw [hU]; simp [go_sem]
  have hof : U.frozen? ⟨W.heap.size + 1 + 1, 0, none⟩ = false := by rw [hU]; simp [go_sem]
  have k0_0 : U.cell? ⟨W.heap.size, 0, none⟩ = some (.int .i64 (x0)) := by rw [hU]; simp [go_sem]
  have k0_1 : U.cell? ⟨W.heap.size, 1, none⟩ = some (.int .i64 (x1)) := by rw [hU]; simp [go_sem]
  have k0_2 : U.cell? ⟨W.heap.size, 2, none⟩ = some (.int .i64 (x2)) := by rw [hU]; simp [go_sem]
  have rr0 : U.cell? ⟨W.heap.size + 1, 0, none⟩ = some (.int .i64 0) := by rw [hU]; simp [go_sem]
  have rf0 : U.frozen? ⟨W.heap.size + 1, 0, none⟩ = false := by rw [hU]; simp [go_sem]
  have rr1 : U.cell? ⟨W.heap.size + 1, 1, none⟩ = some (.int .i64 0) := by rw [hU]; simp [go_sem]
  have rf1 : U.frozen? ⟨W.heap.size + 1, 1, none⟩ = false := by rw [hU]; simp [go_sem]
  have rr2 : U.cell? ⟨W.heap.size + 1, 2, none⟩ = some (.int .i64 0) := by rw [hU]; simp [go_sem]
  have rf2 : U.frozen? ⟨W.heap.size + 1, 2, none⟩ = false := by rw [hU]; simp [go_sem]
  rw [← hU]
  clear hU hc hf
  obtain ⟨pa, hpa⟩ : ∃ p, p = W.heap.size := ⟨_, rfl⟩
  obtain ⟨pr, hpr⟩ : ∃ p, p = W.heap.size + 1 := ⟨_, rfl⟩
  obtain ⟨po, hpo⟩ : ∃ p, p = W.heap.size + 1 + 1 := ⟨_, rfl⟩
  rw [← hpo] at ho hof
  rw [← hpo]
  rw [← hpr] at rr0 rf0 rr1 rf1 rr2 rf2
  rw [← hpr]
  rw [← hpa] at k0_0 k0_1 k0_2
  rw [← hpa]
  have q0 : W.heap.size ≤ pa := by omega
  have q1 : pa < pr := by omega
  have q2 : pr < po := by omega
  have q9 : po < U.heap.size := by omega
  clear hpa hpr hpo hUs
  have hπ : (scale_plan b off f pa pr po x0 x1 x2 n W U).Good := by
    refine good_of ?_ ?_ ?_ ?_ ?_ ?_ ?_ (scale_bads b off f pa pr po x0 x1 x2 n W U).1 (scale_bads b off f pa pr po x0 x1 x2 n W U).2
    · show W.heap.size ≤ pr; omega
    · show pr < U.heap.size; omega
    · exact Or.inr (by show W.heap.size ≤ po; omega)
    · show po < U.heap.size; omega
    · show po ≠ pr; omega
    · show b < W.heap.size; omega
    · intro c hc
      simp only [scale_plan, List.mem_cons, List.not_mem_nil, or_false] at hc
      rcases hc with rfl | rfl | rfl <;> (show _ < U.heap.size ∧ _ ≠ po ∧ _ ≠ b ∧ _ ≠ pr) <;> (dsimp only) <;> omega
  refine region_by (shapeVal (scale_sh b off f pa pr po x0 x1 x2 n W U)) (Glob (scale_plan b off f pa pr po x0 x1 x2 n W U)) (by kernel_rfl) (by kernel_rfl) (by kernel_rfl) (by kernel_rfl) (fun _ => 0) ?_ ?_ ?_
  · refine ⟨?_, ?_, ?_, ?_, ?_, ?_, (fun _ _ h => by cases h), (fun _ _ _ _ h => by cases h)⟩
    · exact HL.out.drew
    · exact Nat.le_refl _
    · exact ⟨false, ho, hof, fun h => by show scale_bad b off f pa pr po x0 x1 x2 n W U = true; simp [scale_bad, h], fun h => h, fun _ _ h => by cases h⟩
    · refine Or.inr ⟨?_, hpf⟩
      show U.cell? ⟨b, off, none⟩ = some (.bool (f || (false && scale_bad b off f pa pr po x0 x1 x2 n W U)))
      rw [Bool.false_and, Bool.or_false]; exact hp
    · refine ⟨[.int .i64 0, .int .i64 0, .int .i64 0], rfl, ?_, fun h => by cases h⟩
      intro k v hk
      match k, hk with
      | 0, hk => simp at hk; subst hk; exact ⟨rr0, rf0⟩
      | 1, hk => simp at hk; subst hk; exact ⟨rr1, rf1⟩
      | 2, hk => simp at hk; subst hk; exact ⟨rr2, rf2⟩
    · intro c hc
      simp only [scale_plan, List.mem_cons, List.not_mem_nil, or_false] at hc
      rcases hc with rfl | rfl | rfl <;> assumption
  · generalize hD : dstOf _ = D
    generalize hA : waitsFor _ = A
    generalize hZ : Act.mk _ _ = Z
    have d0 : D 0 = some 8 := by rw [← hD]; rfl
    have d1 : D 1 = some 9 := by rw [← hD]; rfl
    have d2 : D 2 = some 10 := by rw [← hD]; rfl
    have d3 : D 3 = some 11 := by rw [← hD]; rfl
    have d4 : D 4 = some 12 := by rw [← hD]; rfl
    have d5 : D 5 = some 13 := by rw [← hD]; rfl
    have d6 : D 6 = some 14 := by rw [← hD]; rfl
    have R0 : ∀ (γ : Nat → Nat) (L : Nat → Bool) (a : Act) (w : World), Held D A (shapeVal (scale_sh b off f pa pr po x0 x1 x2 n W U)) (Glob (scale_plan b off f pa pr po x0 x1 x2 n W U)) Z γ L a w → a.tmps[0]? = some (.pointer (some ⟨b, off, none⟩)) := fun γ L a w hH => (hH.rest 0 (by rw [← hD]; exact dst_free (by kernel_rfl))).trans (by rw [← hZ]; rfl)
    have R4 : ∀ (γ : Nat → Nat) (L : Nat → Bool) (a : Act) (w : World), Held D A (shapeVal (scale_sh b off f pa pr po x0 x1 x2 n W U)) (Glob (scale_plan b off f pa pr po x0 x1 x2 n W U)) Z γ L a w → a.tmps[4]? = some (.pointer (some ⟨pa, 0, none⟩)) := fun γ L a w hH => (hH.rest 4 (by rw [← hD]; exact dst_free (by kernel_rfl))).trans (by rw [← hZ]; rfl)
    have R6 : ∀ (γ : Nat → Nat) (L : Nat → Bool) (a : Act) (w : World), Held D A (shapeVal (scale_sh b off f pa pr po x0 x1 x2 n W U)) (Glob (scale_plan b off f pa pr po x0 x1 x2 n W U)) Z γ L a w → a.tmps[6]? = some (.pointer (some ⟨pr, 0, none⟩)) := fun γ L a w hH => (hH.rest 6 (by rw [← hD]; exact dst_free (by kernel_rfl))).trans (by rw [← hZ]; rfl)
    have R7 : ∀ (γ : Nat → Nat) (L : Nat → Bool) (a : Act) (w : World), Held D A (shapeVal (scale_sh b off f pa pr po x0 x1 x2 n W U)) (Glob (scale_plan b off f pa pr po x0 x1 x2 n W U)) Z γ L a w → a.tmps[7]? = some (.pointer (some ⟨po, 0, none⟩)) := fun γ L a w hH => (hH.rest 7 (by rw [← hD]; exact dst_free (by kernel_rfl))).trans (by rw [← hZ]; rfl)
    have R2 : ∀ (γ : Nat → Nat) (L : Nat → Bool) (a : Act) (w : World), Held D A (shapeVal (scale_sh b off f pa pr po x0 x1 x2 n W U)) (Glob (scale_plan b off f pa pr po x0 x1 x2 n W U)) Z γ L a w → a.tmps[2]? = some (.int .i64 (n)) := fun γ L a w hH => (hH.rest 2 (by rw [← hD]; exact dst_free (by kernel_rfl))).trans (by rw [← hZ]; rfl)
    have A_5_4 : A 5 4 := by rw [← hA]; exact ⟨_, rfl, ⟨4, .data⟩, by simp, rfl, rfl⟩
    clear hD hA hZ
    refine AllDo.cons 0 rfl (does_pure _ rfl rfl (fun γ L a w hH hA => by have e1 := R0 γ L a w hH; simp [execOp, go_sem, e1])) ?_
    refine AllDo.cons 1 rfl (does_pure _ rfl rfl (fun γ L a w hH hA => by have e1 := R7 γ L a w hH; simp [execOp, go_sem, e1])) ?_
    refine AllDo.cons 2 rfl (does_pure _ rfl rfl (fun γ L a w hH hA => by have e1 := R4 γ L a w hH; have e2 := hH.glob.fix (⟨pa, 0, none⟩, .int .i64 (x0)) (by simp [scale_plan]); have e3 := hH.glob.fix (⟨pa, 1, none⟩, .int .i64 (x1)) (by simp [scale_plan]); have e4 := hH.glob.fix (⟨pa, 2, none⟩, .int .i64 (x2)) (by simp [scale_plan]); simp [execOp, go_sem, e1, e2, e3, e4])) ?_
    refine AllDo.cons 3 rfl (does_pure _ rfl rfl (fun γ L a w hH hA => by have e1 := R2 γ L a w hH; simp [execOp, go_sem, e1])) ?_
    refine AllDo.cons 4 rfl (does_call hπ _ (false) rfl (by simp [scale_plan]) (calls_only (scale_cn b off f pa pr po x0 x1 x2 n W U) (by simp [scale_plan])) rfl (fun γ L a w hH hA g hg hz => by have e1 := hH.at d3 (rfl : scale_sh b off f pa pr po x0 x1 x2 n W U 3 = _) (hA ⟨3, .data⟩ (by simp) rfl); exact ⟨41, #[.int .i64 (n)], by simp [go_sem, e1], (thrice_any (n) w).mono (by rintro e W1 ⟨rfl, Z⟩; exact ⟨rfl, g || false, rfl, after_keep Z.out hg hz⟩)⟩)) ?_
    refine AllDo.cons 5 rfl (does_call hπ _ (((mul (x0) (n)).isNone || (mul (x1) (n)).isNone || (mul (x2) (n)).isNone)) rfl (by simp [scale_plan]) (calls_only (scale_cn b off f pa pr po x0 x1 x2 n W U) (by simp [scale_plan])) rfl (fun γ L a w hH hA g hg hz => by have e1 := hH.at d1 (rfl : scale_sh b off f pa pr po x0 x1 x2 n W U 1 = _) (hA ⟨1, .data⟩ (by simp) rfl); have e2 := hH.at d2 (rfl : scale_sh b off f pa pr po x0 x1 x2 n W U 2 = _) (hA ⟨2, .data⟩ (by simp) rfl); have e3 := hH.at d4 (rfl : scale_sh b off f pa pr po x0 x1 x2 n W U 4 = _) (hA ⟨4, .data⟩ (by simp) rfl); exact ⟨33, #[.func (.func 40) #[.pointer (some ⟨po, 0, none⟩)] #[], .agg #[.int .i64 (x0), .int .i64 (x1), .int .i64 (x2)], .agg #[.int .i64 (n), .int .i64 (n), .int .i64 (n)]], by simp [go_sem, e1, e2, e3], (each_mul_any po g (x0) (x1) (x2) (n) (n) (n) w hg hz).mono (by rintro e W1 ⟨g1, rfl, S, Z⟩; exact ⟨rfl, g1, S.out, Z.out⟩)⟩)) ?_
    refine AllDo.cons 6 rfl (does_tell hπ _ rfl (fun e => by have e2 : po = b := congrArg Addr.block e; omega) (by simp [scale_plan]) (by simp [scale_plan]) (by simp [scale_plan]) rfl (fun L hcl haft c hc => by have L5 : L 5 = true := haft ⟨5, .data⟩ (by simp) rfl; have L4 : L 4 = true := hcl 5 4 A_5_4 L5; simp only [scale_plan, List.mem_cons, List.not_mem_nil, or_false] at hc; rcases hc with rfl | rfl; all_goals assumption) (fun γ L a w hH hA hb hp hpf => by have e1 := hH.at d0 (rfl : scale_sh b off f pa pr po x0 x1 x2 n W U 0 = _) (hA ⟨0, .data⟩ (by simp) rfl); have e2 := R7 γ L a w hH; have e3 := hH.at d5 (rfl : scale_sh b off f pa pr po x0 x1 x2 n W U 5 = _) (hA ⟨5, .data⟩ (by simp) rfl); exact ⟨32, #[.pointer (some ⟨b, off, none⟩), .pointer (some ⟨po, 0, none⟩), .agg #[.int .i64 ((mul (x0) (n)).getD 0), .int .i64 ((mul (x1) (n)).getD 0), .int .i64 ((mul (x2) (n)).getD 0)]], by simp [go_sem, e1, e2, e3], (tell3_any b off po f (scale_bad b off f pa pr po x0 x1 x2 n W U) ((mul (x0) (n)).getD 0) ((mul (x1) (n)).getD 0) ((mul (x2) (n)).getD 0) w hp hpf hb).mono (by rintro e W1 ⟨rfl, Z⟩; exact ⟨rfl, Z.out⟩)⟩)) ?_
    refine AllDo.cons 7 rfl (does_store hπ (by simp [scale_plan]) rfl rfl (by simp [scale_plan]) (by simp [scale_plan]) (by simp [scale_plan]) (fun γ L a w hH hA cs hl hh => by have e1 := R6 γ L a w hH; have e2 := hH.at d6 (rfl : scale_sh b off f pa pr po x0 x1 x2 n W U 6 = _) (hA ⟨6, .data⟩ (by simp) rfl); obtain ⟨u0, u1, u2, rfl⟩ := list3 hl; have zz0 : w.cell? ⟨pr, 0, none⟩ = some u0 ∧ w.frozen? ⟨pr, 0, none⟩ = false := hh 0 u0 rfl; have zz1 : w.cell? ⟨pr, 1, none⟩ = some u1 ∧ w.frozen? ⟨pr, 1, none⟩ = false := hh 1 u1 rfl; have zz2 : w.cell? ⟨pr, 2, none⟩ = some u2 ∧ w.frozen? ⟨pr, 2, none⟩ = false := hh 2 u2 rfl; exact ⟨(((w.setCell ⟨pr, 0, none⟩ (.int .i64 (cond (scale_bad b off f pa pr po x0 x1 x2 n W U) 0 ((mul (x0) (n)).getD 0)))).setCell ⟨pr, 1, none⟩ (.int .i64 (cond (scale_bad b off f pa pr po x0 x1 x2 n W U) 0 ((mul (x1) (n)).getD 0)))).setCell ⟨pr, 2, none⟩ (.int .i64 (cond (scale_bad b off f pa pr po x0 x1 x2 n W U) 0 ((mul (x2) (n)).getD 0)))), by simp [execOp, go_sem, e1, e2, zz0.1, zz0.2, zz1.1, zz1.2, zz2.1, zz2.2], ((((Only.refl _ _).set 0 _).set 1 _).set 2 _), holds3 hh⟩)) ?_
    exact AllDo.nil
  · intro γ a w L hL hLo hH
    have hL' : ∀ j, j < 8 → L j = true := fun j hj => hL j hj
    have hG := hH.glob
    have hdf : a.defers = [] := hH.defers.trans rfl
    have hs : a.tmps[6]? = some (.pointer (some ⟨pr, 0, none⟩)) := (hH.rest 6 (dst_free (by kernel_rfl))).trans rfl
    obtain ⟨cs, c1, c2, c3⟩ := hG.res
    obtain rfl := c3 (hL' 7 (by omega))
    have ho2 := hG.outer.resolve_left (fun e => by have e2 : po = b := congrArg Addr.block e; omega)
    have hA : Hid (After ⟨b, off, none⟩ (f || scale_bad b off f pa pr po x0 x1 x2 n W U) W w) := by
      have e := ho2.1
      rw [show (scale_plan b off f pa pr po x0 x1 x2 n W U).tl = 6 from rfl, hL' 6 (by omega), Bool.true_and] at e
      exact hG.leaves.done e ho2.2
    have r0 : w.cell? ⟨pr, 0, none⟩ = some (.int .i64 (cond (scale_bad b off f pa pr po x0 x1 x2 n W U) 0 ((mul (x0) (n)).getD 0))) := (c2 0 _ rfl).1
    have r1 : w.cell? ⟨pr, 1, none⟩ = some (.int .i64 (cond (scale_bad b off f pa pr po x0 x1 x2 n W U) 0 ((mul (x1) (n)).getD 0))) := (c2 1 _ rfl).1
    have r2 : w.cell? ⟨pr, 2, none⟩ = some (.int .i64 (cond (scale_bad b off f pa pr po x0 x1 x2 n W U) 0 ((mul (x2) (n)).getD 0))) := (c2 2 _ rfl).1
    clear hL hLo hL' hH hG c1 c2 c3 ho2 hπ
    go_wp2
    refine bodyPost_ret (by simp [results, Try.results10, go_sem, hs, r0, r1, r2]; try rfl) hdf ?_
    exact ⟨_, _, _, _, rfl, turn_step (by simp [scale_bad, Bool.or_assoc]), hA⟩

end Go.Proofs.Ytioailboehpcaaa
