/- Package vec's unit vectors. -/
import Derived.Test.YtioailboehpcaaaVec2
namespace Go.Proofs.Ytioailboehpcaaa
open Go.RowKit Fx
set_option linter.unusedVariables false

theorem unit_step {f : Bool} {x0 x1 x2 : Int} {o : Option Int} {bd : Bool}
    (hb : bd = (o.isNone || ((ratio x0 4294967296 (o.getD 0)).isNone || (ratio x1 4294967296 (o.getD 0)).isNone || (ratio x2 4294967296 (o.getD 0)).isNone))) :
    Step3 f (ratio x0 4294967296 (o.getD 0)) (ratio x1 4294967296 (o.getD 0)) (ratio x2 4294967296 (o.getD 0)) (cond bd 0 ((ratio x0 4294967296 (o.getD 0)).getD 0)) (cond bd 0 ((ratio x1 4294967296 (o.getD 0)).getD 0)) (cond bd 0 ((ratio x2 4294967296 (o.getD 0)).getD 0)) (f || bd) := by
  have e : bd = ((ratio x0 4294967296 (o.getD 0)).isNone || (ratio x1 4294967296 (o.getD 0)).isNone || (ratio x2 4294967296 (o.getD 0)).isNone) := by
    rw [hb]
    cases o with
    | none => simp [ratio]
    | some n => simp
  rw [e]
  exact ⟨rfl, rfl, rfl, rfl⟩

def unit_bad (b off : Nat) (f : Bool) (pa pr po : Nat) (x0 x1 x2 : Int) (W U : World) : Bool := false || ([(4, (norm [x0, x1, x2]).isNone), (5, false), (6, ((ratio (x0) 4294967296 ((norm [x0, x1, x2]).getD 0)).isNone || (ratio (x1) 4294967296 ((norm [x0, x1, x2]).getD 0)).isNone || (ratio (x2) 4294967296 ((norm [x0, x1, x2]).getD 0)).isNone))] : List (Nat × Bool)).any (·.2)

def unit_sh (b off : Nat) (f : Bool) (pa pr po : Nat) (x0 x1 x2 : Int) (W U : World) : Nat → Shape
  | 0 => .is (.pointer (some ⟨b, off, none⟩))
  | 1 => .is (.func (.func 47) #[.pointer (some ⟨po, 0, none⟩)] #[])
  | 2 => .is (.agg #[.int .i64 (x0), .int .i64 (x1), .int .i64 (x2)])
  | 3 => .is (.agg #[.int .i64 (x0), .int .i64 (x1), .int .i64 (x2)])
  | 4 => .is (.int .i64 ((norm [x0, x1, x2]).getD 0))
  | 5 => .is (.agg #[.int .i64 ((norm [x0, x1, x2]).getD 0), .int .i64 ((norm [x0, x1, x2]).getD 0), .int .i64 ((norm [x0, x1, x2]).getD 0)])
  | 6 => .is (.agg #[.int .i64 ((ratio (x0) 4294967296 ((norm [x0, x1, x2]).getD 0)).getD 0), .int .i64 ((ratio (x1) 4294967296 ((norm [x0, x1, x2]).getD 0)).getD 0), .int .i64 ((ratio (x2) 4294967296 ((norm [x0, x1, x2]).getD 0)).getD 0)])
  | 7 => .is (.agg #[.int .i64 (cond (unit_bad b off f pa pr po x0 x1 x2 W U) 0 ((ratio (x0) 4294967296 ((norm [x0, x1, x2]).getD 0)).getD 0)), .int .i64 (cond (unit_bad b off f pa pr po x0 x1 x2 W U) 0 ((ratio (x1) 4294967296 ((norm [x0, x1, x2]).getD 0)).getD 0)), .int .i64 (cond (unit_bad b off f pa pr po x0 x1 x2 W U) 0 ((ratio (x2) 4294967296 ((norm [x0, x1, x2]).getD 0)).getD 0))])
  | 8 => .ptr
  | _ => .ptr

def unit_plan (b off : Nat) (f : Bool) (pa pr po : Nat) (x0 x1 x2 : Int) (W U : World) : Plan where
  W := W
  N := U.heap.size
  p := ⟨b, off, none⟩
  fl := ⟨po, 0, none⟩
  g0 := false
  bad := unit_bad b off f pa pr po x0 x1 x2 W U
  f := f
  calls := [(4, (norm [x0, x1, x2]).isNone), (5, false), (6, ((ratio (x0) 4294967296 ((norm [x0, x1, x2]).getD 0)).isNone || (ratio (x1) 4294967296 ((norm [x0, x1, x2]).getD 0)).isNone || (ratio (x2) 4294967296 ((norm [x0, x1, x2]).getD 0)).isNone))]
  tl := 7
  st := 8
  r := pr
  res := [.int .i64 (cond (unit_bad b off f pa pr po x0 x1 x2 W U) 0 ((ratio (x0) 4294967296 ((norm [x0, x1, x2]).getD 0)).getD 0)), .int .i64 (cond (unit_bad b off f pa pr po x0 x1 x2 W U) 0 ((ratio (x1) 4294967296 ((norm [x0, x1, x2]).getD 0)).getD 0)), .int .i64 (cond (unit_bad b off f pa pr po x0 x1 x2 W U) 0 ((ratio (x2) 4294967296 ((norm [x0, x1, x2]).getD 0)).getD 0))]
  fixed := [(⟨pa, 0, none⟩, .int .i64 (x0)),
    (⟨pa, 1, none⟩, .int .i64 (x1)),
    (⟨pa, 2, none⟩, .int .i64 (x2))]
  made := []

theorem unit_cn (b off : Nat) (f : Bool) (pa pr po : Nat) (x0 x1 x2 : Int) (W U : World) : ((unit_plan b off f pa pr po x0 x1 x2 W U).calls.map (·.1)).Nodup := of_decide_eq_true rfl
theorem unit_mn (b off : Nat) (f : Bool) (pa pr po : Nat) (x0 x1 x2 : Int) (W U : World) : ((unit_plan b off f pa pr po x0 x1 x2 W U).made.map (·.i)).Nodup := of_decide_eq_true rfl
theorem unit_bads (b off : Nat) (f : Bool) (pa pr po : Nat) (x0 x1 x2 : Int) (W U : World) : ((unit_plan b off f pa pr po x0 x1 x2 W U).bad = true → (unit_plan b off f pa pr po x0 x1 x2 W U).g0 = true ∨ ∃ c ∈ (unit_plan b off f pa pr po x0 x1 x2 W U).calls, c.2 = true) ∧ ∀ c ∈ (unit_plan b off f pa pr po x0 x1 x2 W U).calls, c.2 = true → (unit_plan b off f pa pr po x0 x1 x2 W U).bad = true :=
  bad_any_of _ rfl

set_option maxHeartbeats 4000000 in
theorem vunit_law (b off : Nat) (f : Bool) (x0 x1 x2 : Int) (W : World) (hc : W.cell? ⟨b, off, none⟩ = some (.bool f)) (hf : W.frozen? ⟨b, off, none⟩ = false) :
    Calls Try.prog 18 #[.pointer (some ⟨b, off, none⟩), .agg #[.int .i64 (x0), .int .i64 (x1), .int .i64 (x2)]] W fun e W' => ∃ v0 v1 v2 g, e = .returned (.agg #[.int .i64 (v0), .int .i64 (v1), .int .i64 (v2)]) ∧ Hid (Step3 f (ratio x0 4294967296 ((norm [x0, x1, x2]).getD 0)) (ratio x1 4294967296 ((norm [x0, x1, x2]).getD 0)) (ratio x2 4294967296 ((norm [x0, x1, x2]).getD 0)) v0 v1 v2 g) ∧ Hid (After ⟨b, off, none⟩ g W W') := by
  have hbW : b < W.heap.size := World.block_lt_of_cell? _ _ hc
  go_enter Try.func18, Try.ntmps18
  go_wp2_with (fail)
  obtain ⟨U, hU⟩ : ∃ U, U = (((W.alloc (.cells #[.int .i64 (x0), .int .i64 (x1), .int .i64 (x2)] 23)).alloc (.cells #[.int .i64 0, .int .i64 0, .int .i64 0] 23)).alloc (.cells #[.bool false] 27)) := ⟨_, rfl⟩
  have hUs : U.heap.size = W.heap.size + 3 := by rw [hU]; simp
  have HL : Hid (Leaves ⟨b, off, none⟩ W U) := by show Leaves _ _ _; rw [hU]; exact ((((Leaves.refl _ _).alloc _).alloc _).alloc _)
  have hp : U.cell? ⟨b, off, none⟩ = some (.bool f) := (by rw [hU, World.cell?_alloc_past _ _ _ (by simp; omega), World.cell?_alloc_past _ _ _ (by simp; omega), World.cell?_alloc_past _ _ _ hbW]; exact hc)
  have hpf : U.frozen? ⟨b, off, none⟩ = false := by rw [hU, ((new_after _ _).frozen (by simp; omega)), ((new_after _ _).frozen (by simp; omega)), ((new_after _ _).frozen hbW)]; exact hf
  have ho : U.cell? ⟨W.heap.size + 1 + 1, 0, none⟩ = some (.bool false) := by rw [hU]; simp [go_sem]
  have hof : U.frozen? ⟨W.heap.size + 1 + 1, 0, none⟩ = false := by rw [hU]; simp [go_sem]
  have k0_0 : U.cell? ⟨W.heap.size, 0, none⟩ = some (.int .i64 (x0)) := by rw [hU]; simp [go_sem]
  have k0_1 : U.cell? ⟨W.heap.size, 1, none⟩ = some (.int .i64 (x1)) := by rw [hU]; simp [go_sem]
  have k0_2 : U.cell? ⟨W.heap.size, 2, none⟩ = some (.int .i64 (x2)) := by rw [hU]; simp [go_sem]
  have rr0 : U.cell? ⟨W.heap.size + 1, 0, none⟩ = some (.int .i64 0) := by rw [hU]; simp [go_sem]
  have rf0 : U.frozen? ⟨W.heap.size + 1, 0, none⟩ = false := by rw [hU]; simp [go_sem]
  have rr1 : U.cell? ⟨W.heap.size + 1, 1, none⟩ = some (.int .i64 0) := by rw [hU]; simp [go_sem]
  have rf1 : U.frozen? ⟨W.heap.size + 1, 1, none⟩ = false := by rw [hU]; simp [go_sem]
  have rr2 : U.cell? ⟨W.heap.size + 1, 2, none⟩ = some (.int .i64 0) := by rw [hU]; simp [go_sem]
  have rf2 : U.frozen? ⟨W.heap.size + 1, 2, none⟩ = false := by rw [hU]; simp [go_sem]
  rw [← hU]
  clear hU hc hf
  obtain ⟨pa, hpa⟩ : ∃ p, p = W.heap.size := ⟨_, rfl⟩
  obtain ⟨pr, hpr⟩ : ∃ p, p = W.heap.size + 1 := ⟨_, rfl⟩
  obtain ⟨po, hpo⟩ : ∃ p, p = W.heap.size + 1 + 1 := ⟨_, rfl⟩
  rw [← hpo] at ho hof
  rw [← hpo]
  rw [← hpr] at rr0 rf0 rr1 rf1 rr2 rf2
  rw [← hpr]
  rw [← hpa] at k0_0 k0_1 k0_2
  rw [← hpa]
  have q0 : W.heap.size ≤ pa := by omega
  have q1 : pa < pr := by omega
  have q2 : pr < po := by omega
  have q9 : po < U.heap.size := by omega
  clear hpa hpr hpo hUs
  have hπ : (unit_plan b off f pa pr po x0 x1 x2 W U).Good := by
    refine good_of ?_ ?_ ?_ ?_ ?_ ?_ ?_ (unit_bads b off f pa pr po x0 x1 x2 W U).1 (unit_bads b off f pa pr po x0 x1 x2 W U).2
    · show W.heap.size ≤ pr; omega
    · show pr < U.heap.size; omega
    · exact Or.inr (by show W.heap.size ≤ po; omega)
    · show po < U.heap.size; omega
    · show po ≠ pr; omega
    · show b < W.heap.size; omega
    · intro c hc
      simp only [unit_plan, List.mem_cons, List.not_mem_nil, or_false] at hc
      rcases hc with rfl | rfl | rfl <;> (show _ < U.heap.size ∧ _ ≠ po ∧ _ ≠ b ∧ _ ≠ pr) <;> (dsimp only) <;> omega
  refine region_by (shapeVal (unit_sh b off f pa pr po x0 x1 x2 W U)) (Glob (unit_plan b off f pa pr po x0 x1 x2 W U)) (by kernel_rfl) (by kernel_rfl) (by kernel_rfl) (by kernel_rfl) (fun _ => 0) ?_ ?_ ?_
  · refine ⟨?_, ?_, ?_, ?_, ?_, ?_, (fun _ _ h => by cases h), (fun _ _ _ _ h => by cases h)⟩
    · exact HL.out.drew
    · exact Nat.le_refl _
    · exact ⟨false, ho, hof, fun h => by show unit_bad b off f pa pr po x0 x1 x2 W U = true; simp [unit_bad, h], fun h => h, fun _ _ h => by cases h⟩
    · refine Or.inr ⟨?_, hpf⟩
      show U.cell? ⟨b, off, none⟩ = some (.bool (f || (false && unit_bad b off f pa pr po x0 x1 x2 W U)))
      rw [Bool.false_and, Bool.or_false]; exact hp
    · refine ⟨[.int .i64 0, .int .i64 0, .int .i64 0], rfl, ?_, fun h => by cases h⟩
      intro k v hk
      match k, hk with
      | 0, hk => simp at hk; subst hk; exact ⟨rr0, rf0⟩
      | 1, hk => simp at hk; subst hk; exact ⟨rr1, rf1⟩
      | 2, hk => simp at hk; subst hk; exact ⟨rr2, rf2⟩
    · intro c hc
      simp only [unit_plan, List.mem_cons, List.not_mem_nil, or_false] at hc
      rcases hc with rfl | rfl | rfl <;> assumption
  · generalize hD : dstOf _ = D
    generalize hA : waitsFor _ = A
    generalize hZ : Act.mk _ _ = Z
    have d0 : D 0 = some 6 := by rw [← hD]; rfl
    have d1 : D 1 = some 7 := by rw [← hD]; rfl
    have d2 : D 2 = some 8 := by rw [← hD]; rfl
    have d3 : D 3 = some 9 := by rw [← hD]; rfl
    have d4 : D 4 = some 10 := by rw [← hD]; rfl
    have d5 : D 5 = some 11 := by rw [← hD]; rfl
    have d6 : D 6 = some 12 := by rw [← hD]; rfl
    have d7 : D 7 = some 13 := by rw [← hD]; rfl
    have R0 : ∀ (γ : Nat → Nat) (L : Nat → Bool) (a : Act) (w : World), Held D A (shapeVal (unit_sh b off f pa pr po x0 x1 x2 W U)) (Glob (unit_plan b off f pa pr po x0 x1 x2 W U)) Z γ L a w → a.tmps[0]? = some (.pointer (some ⟨b, off, none⟩)) := fun γ L a w hH => (hH.rest 0 (by rw [← hD]; exact dst_free (by kernel_rfl))).trans (by rw [← hZ]; rfl)
    have R3 : ∀ (γ : Nat → Nat) (L : Nat → Bool) (a : Act) (w : World), Held D A (shapeVal (unit_sh b off f pa pr po x0 x1 x2 W U)) (Glob (unit_plan b off f pa pr po x0 x1 x2 W U)) Z γ L a w → a.tmps[3]? = some (.pointer (some ⟨pa, 0, none⟩)) := fun γ L a w hH => (hH.rest 3 (by rw [← hD]; exact dst_free (by kernel_rfl))).trans (by rw [← hZ]; rfl)
    have R4 : ∀ (γ : Nat → Nat) (L : Nat → Bool) (a : Act) (w : World), Held D A (shapeVal (unit_sh b off f pa pr po x0 x1 x2 W U)) (Glob (unit_plan b off f pa pr po x0 x1 x2 W U)) Z γ L a w → a.tmps[4]? = some (.pointer (some ⟨pr, 0, none⟩)) := fun γ L a w hH => (hH.rest 4 (by rw [← hD]; exact dst_free (by kernel_rfl))).trans (by rw [← hZ]; rfl)
    have R5 : ∀ (γ : Nat → Nat) (L : Nat → Bool) (a : Act) (w : World), Held D A (shapeVal (unit_sh b off f pa pr po x0 x1 x2 W U)) (Glob (unit_plan b off f pa pr po x0 x1 x2 W U)) Z γ L a w → a.tmps[5]? = some (.pointer (some ⟨po, 0, none⟩)) := fun γ L a w hH => (hH.rest 5 (by rw [← hD]; exact dst_free (by kernel_rfl))).trans (by rw [← hZ]; rfl)
    have A_6_5 : A 6 5 := by rw [← hA]; exact ⟨_, rfl, ⟨5, .data⟩, by simp, rfl, rfl⟩
    have A_5_4 : A 5 4 := by rw [← hA]; exact ⟨_, rfl, ⟨4, .data⟩, by simp, rfl, rfl⟩
    clear hD hA hZ
    refine AllDo.cons 0 rfl (does_pure _ rfl rfl (fun γ L a w hH hA => by have e1 := R0 γ L a w hH; simp [execOp, go_sem, e1])) ?_
    refine AllDo.cons 1 rfl (does_pure _ rfl rfl (fun γ L a w hH hA => by have e1 := R5 γ L a w hH; simp [execOp, go_sem, e1])) ?_
    refine AllDo.cons 2 rfl (does_pure _ rfl rfl (fun γ L a w hH hA => by have e1 := R3 γ L a w hH; have e2 := hH.glob.fix (⟨pa, 0, none⟩, .int .i64 (x0)) (by simp [unit_plan]); have e3 := hH.glob.fix (⟨pa, 1, none⟩, .int .i64 (x1)) (by simp [unit_plan]); have e4 := hH.glob.fix (⟨pa, 2, none⟩, .int .i64 (x2)) (by simp [unit_plan]); simp [execOp, go_sem, e1, e2, e3, e4])) ?_
    refine AllDo.cons 3 rfl (does_pure _ rfl rfl (fun γ L a w hH hA => by have e1 := R3 γ L a w hH; have e2 := hH.glob.fix (⟨pa, 0, none⟩, .int .i64 (x0)) (by simp [unit_plan]); have e3 := hH.glob.fix (⟨pa, 1, none⟩, .int .i64 (x1)) (by simp [unit_plan]); have e4 := hH.glob.fix (⟨pa, 2, none⟩, .int .i64 (x2)) (by simp [unit_plan]); simp [execOp, go_sem, e1, e2, e3, e4])) ?_
    refine AllDo.cons 4 rfl (does_call hπ _ ((norm [x0, x1, x2]).isNone) rfl (by simp [unit_plan]) (calls_only (unit_cn b off f pa pr po x0 x1 x2 W U) (by simp [unit_plan])) rfl (fun γ L a w hH hA g hg hz => by have e1 := R5 γ L a w hH; have e2 := hH.at d3 (rfl : unit_sh b off f pa pr po x0 x1 x2 W U 3 = _) (hA ⟨3, .data⟩ (by simp) rfl); exact ⟨16, #[.pointer (some ⟨po, 0, none⟩), .agg #[.int .i64 (x0), .int .i64 (x1), .int .i64 (x2)]], by simp [go_sem, e1, e2], (vlen_law po 0 g (x0) (x1) (x2) w hg hz).mono (by rintro e W1 ⟨v, g1, rfl, S, Z⟩; exact ⟨by rw [S.out.1], g1, S.out.2, Z.out⟩)⟩)) ?_
    refine AllDo.cons 5 rfl (does_call hπ _ (false) rfl (by simp [unit_plan]) (calls_only (unit_cn b off f pa pr po x0 x1 x2 W U) (by simp [unit_plan])) rfl (fun γ L a w hH hA g hg hz => by have e1 := hH.at d4 (rfl : unit_sh b off f pa pr po x0 x1 x2 W U 4 = _) (hA ⟨4, .data⟩ (by simp) rfl); exact ⟨41, #[.int .i64 ((norm [x0, x1, x2]).getD 0)], by simp [go_sem, e1], (thrice_any ((norm [x0, x1, x2]).getD 0) w).mono (by rintro e W1 ⟨rfl, Z⟩; exact ⟨rfl, g || false, rfl, after_keep Z.out hg hz⟩)⟩)) ?_
    refine AllDo.cons 6 rfl (does_call hπ _ (((ratio (x0) 4294967296 ((norm [x0, x1, x2]).getD 0)).isNone || (ratio (x1) 4294967296 ((norm [x0, x1, x2]).getD 0)).isNone || (ratio (x2) 4294967296 ((norm [x0, x1, x2]).getD 0)).isNone)) rfl (by simp [unit_plan]) (calls_only (unit_cn b off f pa pr po x0 x1 x2 W U) (by simp [unit_plan])) rfl (fun γ L a w hH hA g hg hz => by have e1 := hH.at d1 (rfl : unit_sh b off f pa pr po x0 x1 x2 W U 1 = _) (hA ⟨1, .data⟩ (by simp) rfl); have e2 := hH.at d2 (rfl : unit_sh b off f pa pr po x0 x1 x2 W U 2 = _) (hA ⟨2, .data⟩ (by simp) rfl); have e3 := hH.at d5 (rfl : unit_sh b off f pa pr po x0 x1 x2 W U 5 = _) (hA ⟨5, .data⟩ (by simp) rfl); exact ⟨33, #[.func (.func 47) #[.pointer (some ⟨po, 0, none⟩)] #[], .agg #[.int .i64 (x0), .int .i64 (x1), .int .i64 (x2)], .agg #[.int .i64 ((norm [x0, x1, x2]).getD 0), .int .i64 ((norm [x0, x1, x2]).getD 0), .int .i64 ((norm [x0, x1, x2]).getD 0)]], by simp [go_sem, e1, e2, e3], (each_div_any po g (x0) (x1) (x2) ((norm [x0, x1, x2]).getD 0) ((norm [x0, x1, x2]).getD 0) ((norm [x0, x1, x2]).getD 0) w hg hz).mono (by rintro e W1 ⟨g1, rfl, S, Z⟩; exact ⟨rfl, g1, S.out, Z.out⟩)⟩)) ?_
    refine AllDo.cons 7 rfl (does_tell hπ _ rfl (fun e => by have e2 : po = b := congrArg Addr.block e; omega) (by simp [unit_plan]) (by simp [unit_plan]) (by simp [unit_plan]) rfl (fun L hcl haft c hc => by have L6 : L 6 = true := haft ⟨6, .data⟩ (by simp) rfl; have L5 : L 5 = true := hcl 6 5 A_6_5 L6; have L4 : L 4 = true := hcl 5 4 A_5_4 L5; simp only [unit_plan, List.mem_cons, List.not_mem_nil, or_false] at hc; rcases hc with rfl | rfl | rfl; all_goals assumption) (fun γ L a w hH hA hb hp hpf => by have e1 := hH.at d0 (rfl : unit_sh b off f pa pr po x0 x1 x2 W U 0 = _) (hA ⟨0, .data⟩ (by simp) rfl); have e2 := R5 γ L a w hH; have e3 := hH.at d6 (rfl : unit_sh b off f pa pr po x0 x1 x2 W U 6 = _) (hA ⟨6, .data⟩ (by simp) rfl); exact ⟨32, #[.pointer (some ⟨b, off, none⟩), .pointer (some ⟨po, 0, none⟩), .agg #[.int .i64 ((ratio (x0) 4294967296 ((norm [x0, x1, x2]).getD 0)).getD 0), .int .i64 ((ratio (x1) 4294967296 ((norm [x0, x1, x2]).getD 0)).getD 0), .int .i64 ((ratio (x2) 4294967296 ((norm [x0, x1, x2]).getD 0)).getD 0)]], by simp [go_sem, e1, e2, e3], (tell3_any b off po f (unit_bad b off f pa pr po x0 x1 x2 W U) ((ratio (x0) 4294967296 ((norm [x0, x1, x2]).getD 0)).getD 0) ((ratio (x1) 4294967296 ((norm [x0, x1, x2]).getD 0)).getD 0) ((ratio (x2) 4294967296 ((norm [x0, x1, x2]).getD 0)).getD 0) w hp hpf hb).mono (by rintro e W1 ⟨rfl, Z⟩; exact ⟨rfl, Z.out⟩)⟩)) ?_
    refine AllDo.cons 8 rfl (does_store hπ (by simp [unit_plan]) rfl rfl (by simp [unit_plan]) (by simp [unit_plan]) (by simp [unit_plan]) (fun γ L a w hH hA cs hl hh => by have e1 := R4 γ L a w hH; have e2 := hH.at d7 (rfl : unit_sh b off f pa pr po x0 x1 x2 W U 7 = _) (hA ⟨7, .data⟩ (by simp) rfl); obtain ⟨u0, u1, u2, rfl⟩ := list3 hl; have zz0 : w.cell? ⟨pr, 0, none⟩ = some u0 ∧ w.frozen? ⟨pr, 0, none⟩ = false := hh 0 u0 rfl; have zz1 : w.cell? ⟨pr, 1, none⟩ = some u1 ∧ w.frozen? ⟨pr, 1, none⟩ = false := hh 1 u1 rfl; have zz2 : w.cell? ⟨pr, 2, none⟩ = some u2 ∧ w.frozen? ⟨pr, 2, none⟩ = false := hh 2 u2 rfl; exact ⟨(((w.setCell ⟨pr, 0, none⟩ (.int .i64 (cond (unit_bad b off f pa pr po x0 x1 x2 W U) 0 ((ratio (x0) 4294967296 ((norm [x0, x1, x2]).getD 0)).getD 0)))).setCell ⟨pr, 1, none⟩ (.int .i64 (cond (unit_bad b off f pa pr po x0 x1 x2 W U) 0 ((ratio (x1) 4294967296 ((norm [x0, x1, x2]).getD 0)).getD 0)))).setCell ⟨pr, 2, none⟩ (.int .i64 (cond (unit_bad b off f pa pr po x0 x1 x2 W U) 0 ((ratio (x2) 4294967296 ((norm [x0, x1, x2]).getD 0)).getD 0)))), by simp [execOp, go_sem, e1, e2, zz0.1, zz0.2, zz1.1, zz1.2, zz2.1, zz2.2], ((((Only.refl _ _).set 0 _).set 1 _).set 2 _), holds3 hh⟩)) ?_
    exact AllDo.nil
  · intro γ a w L hL hLo hH
    have hL' : ∀ j, j < 9 → L j = true := fun j hj => hL j hj
    have hG := hH.glob
    have hdf : a.defers = [] := hH.defers.trans rfl
    have hs : a.tmps[4]? = some (.pointer (some ⟨pr, 0, none⟩)) := (hH.rest 4 (dst_free (by kernel_rfl))).trans rfl
    obtain ⟨cs, c1, c2, c3⟩ := hG.res
    obtain rfl := c3 (hL' 8 (by omega))
    have ho2 := hG.outer.resolve_left (fun e => by have e2 : po = b := congrArg Addr.block e; omega)
    have hA : Hid (After ⟨b, off, none⟩ (f || unit_bad b off f pa pr po x0 x1 x2 W U) W w) := by
      have e := ho2.1
      rw [show (unit_plan b off f pa pr po x0 x1 x2 W U).tl = 7 from rfl, hL' 7 (by omega), Bool.true_and] at e
      exact hG.leaves.done e ho2.2
    have r0 : w.cell? ⟨pr, 0, none⟩ = some (.int .i64 (cond (unit_bad b off f pa pr po x0 x1 x2 W U) 0 ((ratio (x0) 4294967296 ((norm [x0, x1, x2]).getD 0)).getD 0))) := (c2 0 _ rfl).1
    have r1 : w.cell? ⟨pr, 1, none⟩ = some (.int .i64 (cond (unit_bad b off f pa pr po x0 x1 x2 W U) 0 ((ratio (x1) 4294967296 ((norm [x0, x1, x2]).getD 0)).getD 0))) := (c2 1 _ rfl).1
    have r2 : w.cell? ⟨pr, 2, none⟩ = some (.int .i64 (cond (unit_bad b off f pa pr po x0 x1 x2 W U) 0 ((ratio (x2) 4294967296 ((norm [x0, x1, x2]).getD 0)).getD 0))) := (c2 2 _ rfl).1
    clear hL hLo hL' hH hG c1 c2 c3 ho2 hπ
    go_wp2
    refine bodyPost_ret (by simp [results, Try.results18, go_sem, hs, r0, r1, r2]; try rfl) hdf ?_
    exact ⟨_, _, _, _, rfl, unit_step (by simp [unit_bad, Bool.or_assoc]), hA⟩

end Go.Proofs.Ytioailboehpcaaa
