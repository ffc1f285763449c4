/- Package vec's inner function eachOfTurn. -/
import Derived.Test.YtompnibhfdkkjaaGreatSPPlace8
namespace Go.Proofs.YtompnibhfdkkjaaGreat
open Go.RowKit Fx
set_option linter.unusedVariables false

def each4_add_bad (b : Nat) (f : Bool) (x0 x1 x2 x3 y0 y1 y2 y3 : Int) (W : World) : Bool := f || ([(5, (add (x0) (y0)).isNone), (11, (add (x1) (y1)).isNone), (17, (add (x2) (y2)).isNone), (23, (add (x3) (y3)).isNone)] : List (Nat × Bool)).any (·.2)

def each4_add_sh (b : Nat) (f : Bool) (x0 x1 x2 x3 y0 y1 y2 y3 : Int) (W : World) : Nat → Shape
  | 0 => .is (.func (.func 90) #[.pointer (some ⟨b, 0, none⟩)] #[])
  | 1 => .is (.pointer (some ⟨W.heap.size, 0, none⟩))
  | 2 => .is (.int .i64 (x0))
  | 3 => .is (.pointer (some ⟨W.heap.size + 1, 0, none⟩))
  | 4 => .is (.int .i64 (y0))
  | 5 => .is (.int .i64 ((add (x0) (y0)).getD 0))
  | 6 => .is (.func (.func 90) #[.pointer (some ⟨b, 0, none⟩)] #[])
  | 7 => .is (.pointer (some ⟨W.heap.size, 1, none⟩))
  | 8 => .is (.int .i64 (x1))
  | 9 => .is (.pointer (some ⟨W.heap.size + 1, 1, none⟩))
  | 10 => .is (.int .i64 (y1))
  | 11 => .is (.int .i64 ((add (x1) (y1)).getD 0))
  | 12 => .is (.func (.func 90) #[.pointer (some ⟨b, 0, none⟩)] #[])
  | 13 => .is (.pointer (some ⟨W.heap.size, 2, none⟩))
  | 14 => .is (.int .i64 (x2))
  | 15 => .is (.pointer (some ⟨W.heap.size + 1, 2, none⟩))
  | 16 => .is (.int .i64 (y2))
  | 17 => .is (.int .i64 ((add (x2) (y2)).getD 0))
  | 18 => .is (.func (.func 90) #[.pointer (some ⟨b, 0, none⟩)] #[])
  | 19 => .is (.pointer (some ⟨W.heap.size, 3, none⟩))
  | 20 => .is (.int .i64 (x3))
  | 21 => .is (.pointer (some ⟨W.heap.size + 1, 3, none⟩))
  | 22 => .is (.int .i64 (y3))
  | 23 => .is (.int .i64 ((add (x3) (y3)).getD 0))
  | 24 => .is (.agg #[.int .i64 ((add (x0) (y0)).getD 0), .int .i64 ((add (x1) (y1)).getD 0), .int .i64 ((add (x2) (y2)).getD 0), .int .i64 ((add (x3) (y3)).getD 0)])
  | 25 => .ptr
  | _ => .ptr

def each4_add_plan (b : Nat) (f : Bool) (x0 x1 x2 x3 y0 y1 y2 y3 : Int) (W : World) : Plan where
  W := W
  N := W.heap.size + 1 + 1 + 1
  p := ⟨b, 0, none⟩
  fl := ⟨b, 0, none⟩
  g0 := f
  bad := each4_add_bad b f x0 x1 x2 x3 y0 y1 y2 y3 W
  f := f
  calls := [(5, (add (x0) (y0)).isNone), (11, (add (x1) (y1)).isNone), (17, (add (x2) (y2)).isNone), (23, (add (x3) (y3)).isNone)]
  tl := 100000
  st := 25
  r := W.heap.size + 1 + 1
  res := [.int .i64 ((add (x0) (y0)).getD 0), .int .i64 ((add (x1) (y1)).getD 0), .int .i64 ((add (x2) (y2)).getD 0), .int .i64 ((add (x3) (y3)).getD 0)]
  fixed := [(⟨W.heap.size, 0, none⟩, .int .i64 (x0)),
    (⟨W.heap.size + 1, 0, none⟩, .int .i64 (y0)),
    (⟨W.heap.size, 1, none⟩, .int .i64 (x1)),
    (⟨W.heap.size + 1, 1, none⟩, .int .i64 (y1)),
    (⟨W.heap.size, 2, none⟩, .int .i64 (x2)),
    (⟨W.heap.size + 1, 2, none⟩, .int .i64 (y2)),
    (⟨W.heap.size, 3, none⟩, .int .i64 (x3)),
    (⟨W.heap.size + 1, 3, none⟩, .int .i64 (y3))]
  made := []

theorem each4_add_cn (b : Nat) (f : Bool) (x0 x1 x2 x3 y0 y1 y2 y3 : Int) (W : World) : ((each4_add_plan b f x0 x1 x2 x3 y0 y1 y2 y3 W).calls.map (·.1)).Nodup := of_decide_eq_true rfl
theorem each4_add_bads (b : Nat) (f : Bool) (x0 x1 x2 x3 y0 y1 y2 y3 : Int) (W : World) : ((each4_add_plan b f x0 x1 x2 x3 y0 y1 y2 y3 W).bad = true → (each4_add_plan b f x0 x1 x2 x3 y0 y1 y2 y3 W).g0 = true ∨ ∃ c ∈ (each4_add_plan b f x0 x1 x2 x3 y0 y1 y2 y3 W).calls, c.2 = true) ∧ ∀ c ∈ (each4_add_plan b f x0 x1 x2 x3 y0 y1 y2 y3 W).calls, c.2 = true → (each4_add_plan b f x0 x1 x2 x3 y0 y1 y2 y3 W).bad = true :=
  bad_any_of _ rfl

set_option maxHeartbeats 4000000 in
theorem each4_add_any (b : Nat) (f : Bool) (x0 x1 x2 x3 y0 y1 y2 y3 : Int) (W : World) (hc : W.cell? ⟨b, 0, none⟩ = some (.bool f)) (hf : W.frozen? ⟨b, 0, none⟩ = false) :
    Calls Tryz.prog 89 #[.func (.func 90) #[.pointer (some ⟨b, 0, none⟩)] #[], .agg #[.int .i64 (x0), .int .i64 (x1), .int .i64 (x2), .int .i64 (x3)], .agg #[.int .i64 (y0), .int .i64 (y1), .int .i64 (y2), .int .i64 (y3)]] W fun e W' =>
      ∃ g, e = .returned (.agg #[.int .i64 ((add x0 y0).getD 0), .int .i64 ((add x1 y1).getD 0), .int .i64 ((add x2 y2).getD 0), .int .i64 ((add x3 y3).getD 0)]) ∧ Hid (g = (f || ((add x0 y0).isNone || (add x1 y1).isNone || (add x2 y2).isNone || (add x3 y3).isNone))) ∧ Hid (After ⟨b, 0, none⟩ g W W') := by
  have m1 : b < W.heap.size := World.block_lt_of_cell? _ _ hc
  go_enter Tryz.func89, Tryz.ntmps89
  go_wp2
  have hπ : (each4_add_plan b f x0 x1 x2 x3 y0 y1 y2 y3 W).Good := by
    refine good_of ?_ ?_ ?_ ?_ ?_ ?_ ?_ (each4_add_bads b f x0 x1 x2 x3 y0 y1 y2 y3 W).1 (each4_add_bads b f x0 x1 x2 x3 y0 y1 y2 y3 W).2
    · show W.heap.size ≤ W.heap.size + 1 + 1; omega
    · show W.heap.size + 1 + 1 < W.heap.size + 1 + 1 + 1; omega
    · exact Or.inl rfl
    · show b < W.heap.size + 1 + 1 + 1; omega
    · show b ≠ W.heap.size + 1 + 1; omega
    · exact m1
    · intro c hc; simp only [each4_add_plan, List.mem_cons, List.not_mem_nil, or_false] at hc; rcases hc with rfl | rfl | rfl | rfl | rfl | rfl | rfl | rfl <;> (show _ < W.heap.size + 1 + 1 + 1 ∧ _ ≠ b ∧ _ ≠ b ∧ _ ≠ W.heap.size + 1 + 1) <;> (dsimp only) <;> omega
  refine region_by (shapeVal (each4_add_sh b f x0 x1 x2 x3 y0 y1 y2 y3 W)) (Glob (each4_add_plan b f x0 x1 x2 x3 y0 y1 y2 y3 W)) (by kernel_rfl) (by kernel_rfl) (by kernel_rfl) (by kernel_rfl) (fun _ => 0) ?_ ?_ ?_
  · refine ⟨?_, ?_, ?_, ?_, ?_, ?_, (fun _ _ h => by cases h), (fun _ _ _ _ h => by cases h)⟩
    · exact ((((Leaves.refl _ _).alloc _).alloc _).alloc _).drew
    · show W.heap.size + 1 + 1 + 1 ≤ _; simp
    · refine ⟨f, ?_, ?_, fun h => by show each4_add_bad b f x0 x1 x2 x3 y0 y1 y2 y3 W = true; simp [each4_add_bad, h], fun h => h, fun _ _ h => by cases h⟩
      · show World.cell? (World.alloc (World.alloc (World.alloc W _) _) _) ⟨b, 0, none⟩ = _
        rw [World.cell?_alloc_past _ _ _ (by simp; omega), World.cell?_alloc_past _ _ _ (by simp; omega), World.cell?_alloc_past _ _ _ m1]; exact hc
      · show World.frozen? (World.alloc (World.alloc (World.alloc W _) _) _) ⟨b, 0, none⟩ = _
        rw [((new_after _ _).frozen (by simp; omega)), ((new_after _ _).frozen (by simp; omega)), ((new_after _ _).frozen m1)]; exact hf
    · exact Or.inl rfl
    · refine ⟨[.int .i64 0, .int .i64 0, .int .i64 0, .int .i64 0], rfl, ?_, fun h => by cases h⟩
      intro k v hk
      match k, hk with
      | 0, hk => simp at hk; subst hk; simp [each4_add_plan, go_sem]
      | 1, hk => simp at hk; subst hk; simp [each4_add_plan, go_sem]
      | 2, hk => simp at hk; subst hk; simp [each4_add_plan, go_sem]
      | 3, hk => simp at hk; subst hk; simp [each4_add_plan, go_sem]
    · intro c hc
      simp only [each4_add_plan, List.mem_cons, List.not_mem_nil, or_false] at hc
      rcases hc with rfl | rfl | rfl | rfl | rfl | rfl | rfl | rfl <;> simp [go_sem]
  · generalize hD : dstOf _ = D
    generalize hA : waitsFor _ = A
    generalize hZ : Act.mk _ _ = Z
    have d0 : D 0 = some 7 := by rw [← hD]; rfl
    have d1 : D 1 = some 8 := by rw [← hD]; rfl
    have d2 : D 2 = some 9 := by rw [← hD]; rfl
    have d3 : D 3 = some 10 := by rw [← hD]; rfl
    have d4 : D 4 = some 11 := by rw [← hD]; rfl
    have d5 : D 5 = some 12 := by rw [← hD]; rfl
    have d6 : D 6 = some 13 := by rw [← hD]; rfl
    have d7 : D 7 = some 14 := by rw [← hD]; rfl
    have d8 : D 8 = some 15 := by rw [← hD]; rfl
    have d9 : D 9 = some 16 := by rw [← hD]; rfl
    have d10 : D 10 = some 17 := by rw [← hD]; rfl
    have d11 : D 11 = some 18 := by rw [← hD]; rfl
    have d12 : D 12 = some 19 := by rw [← hD]; rfl
    have d13 : D 13 = some 20 := by rw [← hD]; rfl
    have d14 : D 14 = some 21 := by rw [← hD]; rfl
    have d15 : D 15 = some 22 := by rw [← hD]; rfl
    have d16 : D 16 = some 23 := by rw [← hD]; rfl
    have d17 : D 17 = some 24 := by rw [← hD]; rfl
    have d18 : D 18 = some 25 := by rw [← hD]; rfl
    have d19 : D 19 = some 26 := by rw [← hD]; rfl
    have d20 : D 20 = some 27 := by rw [← hD]; rfl
    have d21 : D 21 = some 28 := by rw [← hD]; rfl
    have d22 : D 22 = some 29 := by rw [← hD]; rfl
    have d23 : D 23 = some 30 := by rw [← hD]; rfl
    have d24 : D 24 = some 31 := by rw [← hD]; rfl
    have R0 : ∀ (γ : Nat → Nat) (L : Nat → Bool) (a : Act) (w : World), Held D A (shapeVal (each4_add_sh b f x0 x1 x2 x3 y0 y1 y2 y3 W)) (Glob (each4_add_plan b f x0 x1 x2 x3 y0 y1 y2 y3 W)) Z γ L a w → a.tmps[0]? = some (.func (.func 90) #[.pointer (some ⟨b, 0, none⟩)] #[]) := fun γ L a w hH => (hH.rest 0 (by rw [← hD]; exact dst_free (by kernel_rfl))).trans (by rw [← hZ]; rfl)
    have R4 : ∀ (γ : Nat → Nat) (L : Nat → Bool) (a : Act) (w : World), Held D A (shapeVal (each4_add_sh b f x0 x1 x2 x3 y0 y1 y2 y3 W)) (Glob (each4_add_plan b f x0 x1 x2 x3 y0 y1 y2 y3 W)) Z γ L a w → a.tmps[4]? = some (.pointer (some ⟨W.heap.size, 0, none⟩)) := fun γ L a w hH => (hH.rest 4 (by rw [← hD]; exact dst_free (by kernel_rfl))).trans (by rw [← hZ]; rfl)
    have R5 : ∀ (γ : Nat → Nat) (L : Nat → Bool) (a : Act) (w : World), Held D A (shapeVal (each4_add_sh b f x0 x1 x2 x3 y0 y1 y2 y3 W)) (Glob (each4_add_plan b f x0 x1 x2 x3 y0 y1 y2 y3 W)) Z γ L a w → a.tmps[5]? = some (.pointer (some ⟨W.heap.size + 1, 0, none⟩)) := fun γ L a w hH => (hH.rest 5 (by rw [← hD]; exact dst_free (by kernel_rfl))).trans (by rw [← hZ]; rfl)
    have R6 : ∀ (γ : Nat → Nat) (L : Nat → Bool) (a : Act) (w : World), Held D A (shapeVal (each4_add_sh b f x0 x1 x2 x3 y0 y1 y2 y3 W)) (Glob (each4_add_plan b f x0 x1 x2 x3 y0 y1 y2 y3 W)) Z γ L a w → a.tmps[6]? = some (.pointer (some ⟨W.heap.size + 1 + 1, 0, none⟩)) := fun γ L a w hH => (hH.rest 6 (by rw [← hD]; exact dst_free (by kernel_rfl))).trans (by rw [← hZ]; rfl)

    clear hD hA hZ
    refine AllDo.cons 0 rfl (does_pure _ rfl rfl (fun γ L a w hH hA => by have e1 := R0 γ L a w hH; simp [execOp, go_sem, e1])) ?_
    refine AllDo.cons 1 rfl (does_pure _ rfl rfl (fun γ L a w hH hA => by have e1 := R4 γ L a w hH; simp [execOp, go_sem, e1])) ?_
    refine AllDo.cons 2 rfl (does_pure _ rfl rfl (fun γ L a w hH hA => by have e1 := hH.at d1 (rfl : each4_add_sh b f x0 x1 x2 x3 y0 y1 y2 y3 W 1 = _) (hA ⟨1, .data⟩ (by simp) rfl); have e2 := hH.glob.fix (⟨W.heap.size, 0, none⟩, .int .i64 (x0)) (by simp [each4_add_plan]); simp [execOp, go_sem, e1, e2])) ?_
    refine AllDo.cons 3 rfl (does_pure _ rfl rfl (fun γ L a w hH hA => by have e1 := R5 γ L a w hH; simp [execOp, go_sem, e1])) ?_
    refine AllDo.cons 4 rfl (does_pure _ rfl rfl (fun γ L a w hH hA => by have e1 := hH.at d3 (rfl : each4_add_sh b f x0 x1 x2 x3 y0 y1 y2 y3 W 3 = _) (hA ⟨3, .data⟩ (by simp) rfl); have e2 := hH.glob.fix (⟨W.heap.size + 1, 0, none⟩, .int .i64 (y0)) (by simp [each4_add_plan]); simp [execOp, go_sem, e1, e2])) ?_
    refine AllDo.cons 5 rfl (does_call hπ _ ((add (x0) (y0)).isNone) rfl (by simp [each4_add_plan]) (calls_only (each4_add_cn b f x0 x1 x2 x3 y0 y1 y2 y3 W) (by simp [each4_add_plan])) rfl (fun γ L a w hH hA g hg hz => by have e1 := hH.at d0 (rfl : each4_add_sh b f x0 x1 x2 x3 y0 y1 y2 y3 W 0 = _) (hA ⟨0, .data⟩ (by simp) rfl); have e2 := hH.at d2 (rfl : each4_add_sh b f x0 x1 x2 x3 y0 y1 y2 y3 W 2 = _) (hA ⟨2, .data⟩ (by simp) rfl); have e3 := hH.at d4 (rfl : each4_add_sh b f x0 x1 x2 x3 y0 y1 y2 y3 W 4 = _) (hA ⟨4, .data⟩ (by simp) rfl); exact ⟨90, #[.pointer (some ⟨b, 0, none⟩), .int .i64 (x0), .int .i64 (y0)], by simp [go_sem, e1, e2, e3], (add_law b 0 g (x0) (y0) w hg hz).mono (by rintro e W1 ⟨v, g1, rfl, S, Z⟩; exact ⟨by rw [S.out.1], g1, S.out.2, Z.out⟩)⟩)) ?_
    refine AllDo.cons 6 rfl (does_pure _ rfl rfl (fun γ L a w hH hA => by have e1 := R0 γ L a w hH; simp [execOp, go_sem, e1])) ?_
    refine AllDo.cons 7 rfl (does_pure _ rfl rfl (fun γ L a w hH hA => by have e1 := R4 γ L a w hH; simp [execOp, go_sem, e1])) ?_
    refine AllDo.cons 8 rfl (does_pure _ rfl rfl (fun γ L a w hH hA => by have e1 := hH.at d7 (rfl : each4_add_sh b f x0 x1 x2 x3 y0 y1 y2 y3 W 7 = _) (hA ⟨7, .data⟩ (by simp) rfl); have e2 := hH.glob.fix (⟨W.heap.size, 1, none⟩, .int .i64 (x1)) (by simp [each4_add_plan]); simp [execOp, go_sem, e1, e2])) ?_
    refine AllDo.cons 9 rfl (does_pure _ rfl rfl (fun γ L a w hH hA => by have e1 := R5 γ L a w hH; simp [execOp, go_sem, e1])) ?_
    refine AllDo.cons 10 rfl (does_pure _ rfl rfl (fun γ L a w hH hA => by have e1 := hH.at d9 (rfl : each4_add_sh b f x0 x1 x2 x3 y0 y1 y2 y3 W 9 = _) (hA ⟨9, .data⟩ (by simp) rfl); have e2 := hH.glob.fix (⟨W.heap.size + 1, 1, none⟩, .int .i64 (y1)) (by simp [each4_add_plan]); simp [execOp, go_sem, e1, e2])) ?_
    refine AllDo.cons 11 rfl (does_call hπ _ ((add (x1) (y1)).isNone) rfl (by simp [each4_add_plan]) (calls_only (each4_add_cn b f x0 x1 x2 x3 y0 y1 y2 y3 W) (by simp [each4_add_plan])) rfl (fun γ L a w hH hA g hg hz => by have e1 := hH.at d6 (rfl : each4_add_sh b f x0 x1 x2 x3 y0 y1 y2 y3 W 6 = _) (hA ⟨6, .data⟩ (by simp) rfl); have e2 := hH.at d8 (rfl : each4_add_sh b f x0 x1 x2 x3 y0 y1 y2 y3 W 8 = _) (hA ⟨8, .data⟩ (by simp) rfl); have e3 := hH.at d10 (rfl : each4_add_sh b f x0 x1 x2 x3 y0 y1 y2 y3 W 10 = _) (hA ⟨10, .data⟩ (by simp) rfl); exact ⟨90, #[.pointer (some ⟨b, 0, none⟩), .int .i64 (x1), .int .i64 (y1)], by simp [go_sem, e1, e2, e3], (add_law b 0 g (x1) (y1) w hg hz).mono (by rintro e W1 ⟨v, g1, rfl, S, Z⟩; exact ⟨by rw [S.out.1], g1, S.out.2, Z.out⟩)⟩)) ?_
    refine AllDo.cons 12 rfl (does_pure _ rfl rfl (fun γ L a w hH hA => by have e1 := R0 γ L a w hH; simp [execOp, go_sem, e1])) ?_
    refine AllDo.cons 13 rfl (does_pure _ rfl rfl (fun γ L a w hH hA => by have e1 := R4 γ L a w hH; simp [execOp, go_sem, e1])) ?_
    refine AllDo.cons 14 rfl (does_pure _ rfl rfl (fun γ L a w hH hA => by have e1 := hH.at d13 (rfl : each4_add_sh b f x0 x1 x2 x3 y0 y1 y2 y3 W 13 = _) (hA ⟨13, .data⟩ (by simp) rfl); have e2 := hH.glob.fix (⟨W.heap.size, 2, none⟩, .int .i64 (x2)) (by simp [each4_add_plan]); simp [execOp, go_sem, e1, e2])) ?_
    refine AllDo.cons 15 rfl (does_pure _ rfl rfl (fun γ L a w hH hA => by have e1 := R5 γ L a w hH; simp [execOp, go_sem, e1])) ?_
    refine AllDo.cons 16 rfl (does_pure _ rfl rfl (fun γ L a w hH hA => by have e1 := hH.at d15 (rfl : each4_add_sh b f x0 x1 x2 x3 y0 y1 y2 y3 W 15 = _) (hA ⟨15, .data⟩ (by simp) rfl); have e2 := hH.glob.fix (⟨W.heap.size + 1, 2, none⟩, .int .i64 (y2)) (by simp [each4_add_plan]); simp [execOp, go_sem, e1, e2])) ?_
    refine AllDo.cons 17 rfl (does_call hπ _ ((add (x2) (y2)).isNone) rfl (by simp [each4_add_plan]) (calls_only (each4_add_cn b f x0 x1 x2 x3 y0 y1 y2 y3 W) (by simp [each4_add_plan])) rfl (fun γ L a w hH hA g hg hz => by have e1 := hH.at d12 (rfl : each4_add_sh b f x0 x1 x2 x3 y0 y1 y2 y3 W 12 = _) (hA ⟨12, .data⟩ (by simp) rfl); have e2 := hH.at d14 (rfl : each4_add_sh b f x0 x1 x2 x3 y0 y1 y2 y3 W 14 = _) (hA ⟨14, .data⟩ (by simp) rfl); have e3 := hH.at d16 (rfl : each4_add_sh b f x0 x1 x2 x3 y0 y1 y2 y3 W 16 = _) (hA ⟨16, .data⟩ (by simp) rfl); exact ⟨90, #[.pointer (some ⟨b, 0, none⟩), .int .i64 (x2), .int .i64 (y2)], by simp [go_sem, e1, e2, e3], (add_law b 0 g (x2) (y2) w hg hz).mono (by rintro e W1 ⟨v, g1, rfl, S, Z⟩; exact ⟨by rw [S.out.1], g1, S.out.2, Z.out⟩)⟩)) ?_
    refine AllDo.cons 18 rfl (does_pure _ rfl rfl (fun γ L a w hH hA => by have e1 := R0 γ L a w hH; simp [execOp, go_sem, e1])) ?_
    refine AllDo.cons 19 rfl (does_pure _ rfl rfl (fun γ L a w hH hA => by have e1 := R4 γ L a w hH; simp [execOp, go_sem, e1])) ?_
    refine AllDo.cons 20 rfl (does_pure _ rfl rfl (fun γ L a w hH hA => by have e1 := hH.at d19 (rfl : each4_add_sh b f x0 x1 x2 x3 y0 y1 y2 y3 W 19 = _) (hA ⟨19, .data⟩ (by simp) rfl); have e2 := hH.glob.fix (⟨W.heap.size, 3, none⟩, .int .i64 (x3)) (by simp [each4_add_plan]); simp [execOp, go_sem, e1, e2])) ?_
    refine AllDo.cons 21 rfl (does_pure _ rfl rfl (fun γ L a w hH hA => by have e1 := R5 γ L a w hH; simp [execOp, go_sem, e1])) ?_
    refine AllDo.cons 22 rfl (does_pure _ rfl rfl (fun γ L a w hH hA => by have e1 := hH.at d21 (rfl : each4_add_sh b f x0 x1 x2 x3 y0 y1 y2 y3 W 21 = _) (hA ⟨21, .data⟩ (by simp) rfl); have e2 := hH.glob.fix (⟨W.heap.size + 1, 3, none⟩, .int .i64 (y3)) (by simp [each4_add_plan]); simp [execOp, go_sem, e1, e2])) ?_
    refine AllDo.cons 23 rfl (does_call hπ _ ((add (x3) (y3)).isNone) rfl (by simp [each4_add_plan]) (calls_only (each4_add_cn b f x0 x1 x2 x3 y0 y1 y2 y3 W) (by simp [each4_add_plan])) rfl (fun γ L a w hH hA g hg hz => by have e1 := hH.at d18 (rfl : each4_add_sh b f x0 x1 x2 x3 y0 y1 y2 y3 W 18 = _) (hA ⟨18, .data⟩ (by simp) rfl); have e2 := hH.at d20 (rfl : each4_add_sh b f x0 x1 x2 x3 y0 y1 y2 y3 W 20 = _) (hA ⟨20, .data⟩ (by simp) rfl); have e3 := hH.at d22 (rfl : each4_add_sh b f x0 x1 x2 x3 y0 y1 y2 y3 W 22 = _) (hA ⟨22, .data⟩ (by simp) rfl); exact ⟨90, #[.pointer (some ⟨b, 0, none⟩), .int .i64 (x3), .int .i64 (y3)], by simp [go_sem, e1, e2, e3], (add_law b 0 g (x3) (y3) w hg hz).mono (by rintro e W1 ⟨v, g1, rfl, S, Z⟩; exact ⟨by rw [S.out.1], g1, S.out.2, Z.out⟩)⟩)) ?_
    refine AllDo.cons 24 rfl (does_pure _ rfl rfl (fun γ L a w hH hA => by have e1 := hH.at d5 (rfl : each4_add_sh b f x0 x1 x2 x3 y0 y1 y2 y3 W 5 = _) (hA ⟨5, .data⟩ (by simp) rfl); have e2 := hH.at d11 (rfl : each4_add_sh b f x0 x1 x2 x3 y0 y1 y2 y3 W 11 = _) (hA ⟨11, .data⟩ (by simp) rfl); have e3 := hH.at d17 (rfl : each4_add_sh b f x0 x1 x2 x3 y0 y1 y2 y3 W 17 = _) (hA ⟨17, .data⟩ (by simp) rfl); have e4 := hH.at d23 (rfl : each4_add_sh b f x0 x1 x2 x3 y0 y1 y2 y3 W 23 = _) (hA ⟨23, .data⟩ (by simp) rfl); simp [execOp, go_sem, e1, e2, e3, e4])) ?_
    refine AllDo.cons 25 rfl (does_store hπ (by simp [each4_add_plan]) rfl rfl (by simp [each4_add_plan]) (by simp [each4_add_plan]) (by simp [each4_add_plan]) (fun γ L a w hH hA cs hl hh => by have e1 := R6 γ L a w hH; have e2 := hH.at d24 (rfl : each4_add_sh b f x0 x1 x2 x3 y0 y1 y2 y3 W 24 = _) (hA ⟨24, .data⟩ (by simp) rfl); obtain ⟨u0, u1, u2, u3, rfl⟩ := list4 hl; have zz0 : w.cell? ⟨W.heap.size + 1 + 1, 0, none⟩ = some u0 ∧ w.frozen? ⟨W.heap.size + 1 + 1, 0, none⟩ = false := hh 0 u0 rfl; have zz1 : w.cell? ⟨W.heap.size + 1 + 1, 1, none⟩ = some u1 ∧ w.frozen? ⟨W.heap.size + 1 + 1, 1, none⟩ = false := hh 1 u1 rfl; have zz2 : w.cell? ⟨W.heap.size + 1 + 1, 2, none⟩ = some u2 ∧ w.frozen? ⟨W.heap.size + 1 + 1, 2, none⟩ = false := hh 2 u2 rfl; have zz3 : w.cell? ⟨W.heap.size + 1 + 1, 3, none⟩ = some u3 ∧ w.frozen? ⟨W.heap.size + 1 + 1, 3, none⟩ = false := hh 3 u3 rfl; exact ⟨((((w.setCell ⟨W.heap.size + 1 + 1, 0, none⟩ (.int .i64 ((add (x0) (y0)).getD 0))).setCell ⟨W.heap.size + 1 + 1, 1, none⟩ (.int .i64 ((add (x1) (y1)).getD 0))).setCell ⟨W.heap.size + 1 + 1, 2, none⟩ (.int .i64 ((add (x2) (y2)).getD 0))).setCell ⟨W.heap.size + 1 + 1, 3, none⟩ (.int .i64 ((add (x3) (y3)).getD 0))), by simp [execOp, go_sem, e1, e2, zz0.1, zz0.2, zz1.1, zz1.2, zz2.1, zz2.2, zz3.1, zz3.2], (((((Only.refl _ _).set 0 _).set 1 _).set 2 _).set 3 _), holds4 hh⟩)) ?_
    exact AllDo.nil
  · intro γ a w L hL hLo hH
    have hL' : ∀ j, j < 26 → L j = true := fun j hj => hL j hj
    have hG := hH.glob
    have hdf : a.defers = [] := hH.defers.trans rfl
    have hs : a.tmps[6]? = some (.pointer (some ⟨W.heap.size + 1 + 1, 0, none⟩)) := (hH.rest 6 (dst_free (by kernel_rfl))).trans rfl
    have hfl := hG.flagAll hπ (fun c hc => hL' c.1 (by simp only [each4_add_plan, List.mem_cons, List.not_mem_nil, or_false] at hc; rcases hc with rfl | rfl | rfl | rfl <;> simp))
    obtain ⟨cs, c1, c2, c3⟩ := hG.res
    obtain rfl := c3 (hL' 25 (by omega))
    have hA : Hid (After ⟨b, 0, none⟩ (each4_add_bad b f x0 x1 x2 x3 y0 y1 y2 y3 W) W w) := hG.leaves.done hfl.1 hfl.2
    have r0 : w.cell? ⟨W.heap.size + 1 + 1, 0, none⟩ = some (.int .i64 ((add (x0) (y0)).getD 0)) := (c2 0 _ rfl).1
    have r1 : w.cell? ⟨W.heap.size + 1 + 1, 1, none⟩ = some (.int .i64 ((add (x1) (y1)).getD 0)) := (c2 1 _ rfl).1
    have r2 : w.cell? ⟨W.heap.size + 1 + 1, 2, none⟩ = some (.int .i64 ((add (x2) (y2)).getD 0)) := (c2 2 _ rfl).1
    have r3 : w.cell? ⟨W.heap.size + 1 + 1, 3, none⟩ = some (.int .i64 ((add (x3) (y3)).getD 0)) := (c2 3 _ rfl).1
    clear hL hLo hL' hH hG c1 c2 c3 hfl hπ
    go_wp2
    refine bodyPost_ret (by simp [results, Tryz.results89, go_sem, hs, r0, r1, r2, r3]; try rfl) hdf ?_
    exact ⟨_, rfl, by show _ = _; simp [each4_add_bad, Bool.or_assoc], hA⟩

def each4_sub_bad (b : Nat) (f : Bool) (x0 x1 x2 x3 y0 y1 y2 y3 : Int) (W : World) : Bool := f || ([(5, (sub (x0) (y0)).isNone), (11, (sub (x1) (y1)).isNone), (17, (sub (x2) (y2)).isNone), (23, (sub (x3) (y3)).isNone)] : List (Nat × Bool)).any (·.2)

def each4_sub_sh (b : Nat) (f : Bool) (x0 x1 x2 x3 y0 y1 y2 y3 : Int) (W : World) : Nat → Shape
  | 0 => .is (.func (.func 91) #[.pointer (some ⟨b, 0, none⟩)] #[])
  | 1 => .is (.pointer (some ⟨W.heap.size, 0, none⟩))
  | 2 => .is (.int .i64 (x0))
  | 3 => .is (.pointer (some ⟨W.heap.size + 1, 0, none⟩))
  | 4 => .is (.int .i64 (y0))
  | 5 => .is (.int .i64 ((sub (x0) (y0)).getD 0))
  | 6 => .is (.func (.func 91) #[.pointer (some ⟨b, 0, none⟩)] #[])
  | 7 => .is (.pointer (some ⟨W.heap.size, 1, none⟩))
  | 8 => .is (.int .i64 (x1))
  | 9 => .is (.pointer (some ⟨W.heap.size + 1, 1, none⟩))
  | 10 => .is (.int .i64 (y1))
  | 11 => .is (.int .i64 ((sub (x1) (y1)).getD 0))
  | 12 => .is (.func (.func 91) #[.pointer (some ⟨b, 0, none⟩)] #[])
  | 13 => .is (.pointer (some ⟨W.heap.size, 2, none⟩))
  | 14 => .is (.int .i64 (x2))
  | 15 => .is (.pointer (some ⟨W.heap.size + 1, 2, none⟩))
  | 16 => .is (.int .i64 (y2))
  | 17 => .is (.int .i64 ((sub (x2) (y2)).getD 0))
  | 18 => .is (.func (.func 91) #[.pointer (some ⟨b, 0, none⟩)] #[])
  | 19 => .is (.pointer (some ⟨W.heap.size, 3, none⟩))
  | 20 => .is (.int .i64 (x3))
  | 21 => .is (.pointer (some ⟨W.heap.size + 1, 3, none⟩))
  | 22 => .is (.int .i64 (y3))
  | 23 => .is (.int .i64 ((sub (x3) (y3)).getD 0))
  | 24 => .is (.agg #[.int .i64 ((sub (x0) (y0)).getD 0), .int .i64 ((sub (x1) (y1)).getD 0), .int .i64 ((sub (x2) (y2)).getD 0), .int .i64 ((sub (x3) (y3)).getD 0)])
  | 25 => .ptr
  | _ => .ptr

def each4_sub_plan (b : Nat) (f : Bool) (x0 x1 x2 x3 y0 y1 y2 y3 : Int) (W : World) : Plan where
  W := W
  N := W.heap.size + 1 + 1 + 1
  p := ⟨b, 0, none⟩
  fl := ⟨b, 0, none⟩
  g0 := f
  bad := each4_sub_bad b f x0 x1 x2 x3 y0 y1 y2 y3 W
  f := f
  calls := [(5, (sub (x0) (y0)).isNone), (11, (sub (x1) (y1)).isNone), (17, (sub (x2) (y2)).isNone), (23, (sub (x3) (y3)).isNone)]
  tl := 100000
  st := 25
  r := W.heap.size + 1 + 1
  res := [.int .i64 ((sub (x0) (y0)).getD 0), .int .i64 ((sub (x1) (y1)).getD 0), .int .i64 ((sub (x2) (y2)).getD 0), .int .i64 ((sub (x3) (y3)).getD 0)]
  fixed := [(⟨W.heap.size, 0, none⟩, .int .i64 (x0)),
    (⟨W.heap.size + 1, 0, none⟩, .int .i64 (y0)),
    (⟨W.heap.size, 1, none⟩, .int .i64 (x1)),
    (⟨W.heap.size + 1, 1, none⟩, .int .i64 (y1)),
    (⟨W.heap.size, 2, none⟩, .int .i64 (x2)),
    (⟨W.heap.size + 1, 2, none⟩, .int .i64 (y2)),
    (⟨W.heap.size, 3, none⟩, .int .i64 (x3)),
    (⟨W.heap.size + 1, 3, none⟩, .int .i64 (y3))]
  made := []

theorem each4_sub_cn (b : Nat) (f : Bool) (x0 x1 x2 x3 y0 y1 y2 y3 : Int) (W : World) : ((each4_sub_plan b f x0 x1 x2 x3 y0 y1 y2 y3 W).calls.map (·.1)).Nodup := of_decide_eq_true rfl
theorem each4_sub_bads (b : Nat) (f : Bool) (x0 x1 x2 x3 y0 y1 y2 y3 : Int) (W : World) : ((each4_sub_plan b f x0 x1 x2 x3 y0 y1 y2 y3 W).bad = true → (each4_sub_plan b f x0 x1 x2 x3 y0 y1 y2 y3 W).g0 = true ∨ ∃ c ∈ (each4_sub_plan b f x0 x1 x2 x3 y0 y1 y2 y3 W).calls, c.2 = true) ∧ ∀ c ∈ (each4_sub_plan b f x0 x1 x2 x3 y0 y1 y2 y3 W).calls, c.2 = true → (each4_sub_plan b f x0 x1 x2 x3 y0 y1 y2 y3 W).bad = true :=
  bad_any_of _ rfl

set_option maxHeartbeats 4000000 in
theorem each4_sub_any (b : Nat) (f : Bool) (x0 x1 x2 x3 y0 y1 y2 y3 : Int) (W : World) (hc : W.cell? ⟨b, 0, none⟩ = some (.bool f)) (hf : W.frozen? ⟨b, 0, none⟩ = false) :
    Calls Tryz.prog 89 #[.func (.func 91) #[.pointer (some ⟨b, 0, none⟩)] #[], .agg #[.int .i64 (x0), .int .i64 (x1), .int .i64 (x2), .int .i64 (x3)], .agg #[.int .i64 (y0), .int .i64 (y1), .int .i64 (y2), .int .i64 (y3)]] W fun e W' =>
      ∃ g, e = .returned (.agg #[.int .i64 ((sub x0 y0).getD 0), .int .i64 ((sub x1 y1).getD 0), .int .i64 ((sub x2 y2).getD 0), .int .i64 ((sub x3 y3).getD 0)]) ∧ Hid (g = (f || ((sub x0 y0).isNone || (sub x1 y1).isNone || (sub x2 y2).isNone || (sub x3 y3).isNone))) ∧ Hid (After ⟨b, 0, none⟩ g W W') := by
  have m1 : b < W.heap.size := World.block_lt_of_cell? _ _ hc
  go_enter Tryz.func89, Tryz.ntmps89
  go_wp2
  have hπ : (each4_sub_plan b f x0 x1 x2 x3 y0 y1 y2 y3 W).Good := by
    refine good_of ?_ ?_ ?_ ?_ ?_ ?_ ?_ (each4_sub_bads b f x0 x1 x2 x3 y0 y1 y2 y3 W).1 (each4_sub_bads b f x0 x1 x2 x3 y0 y1 y2 y3 W).2
    · show W.heap.size ≤ W.heap.size + 1 + 1; omega
    · show W.heap.size + 1 + 1 < W.heap.size + 1 + 1 + 1; omega
    · exact Or.inl rfl
    · show b < W.heap.size + 1 + 1 + 1; omega
    · show b ≠ W.heap.size + 1 + 1; omega
    · exact m1
    · intro c hc; simp only [each4_sub_plan, List.mem_cons, List.not_mem_nil, or_false] at hc; rcases hc with rfl | rfl | rfl | rfl | rfl | rfl | rfl | rfl <;> (show _ < W.heap.size + 1 + 1 + 1 ∧ _ ≠ b ∧ _ ≠ b ∧ _ ≠ W.heap.size + 1 + 1) <;> (dsimp only) <;> omega
  refine region_by (shapeVal (each4_sub_sh b f x0 x1 x2 x3 y0 y1 y2 y3 W)) (Glob (each4_sub_plan b f x0 x1 x2 x3 y0 y1 y2 y3 W)) (by kernel_rfl) (by kernel_rfl) (by kernel_rfl) (by kernel_rfl) (fun _ => 0) ?_ ?_ ?_
  · refine ⟨?_, ?_, ?_, ?_, ?_, ?_, (fun _ _ h => by cases h), (fun _ _ _ _ h => by cases h)⟩
    · exact ((((Leaves.refl _ _).alloc _).alloc _).alloc _).drew
    · show W.heap.size + 1 + 1 + 1 ≤ _; simp
    · refine ⟨f, ?_, ?_, fun h => by show each4_sub_bad b f x0 x1 x2 x3 y0 y1 y2 y3 W = true; simp [each4_sub_bad, h], fun h => h, fun _ _ h => by cases h⟩
      · show World.cell? (World.alloc (World.alloc (World.alloc W _) _) _) ⟨b, 0, none⟩ = _
        rw [World.cell?_alloc_past _ _ _ (by simp; omega), World.cell?_alloc_past _ _ _ (by simp; omega), World.cell?_alloc_past _ _ _ m1]; exact hc
      · show World.frozen? (World.alloc (World.alloc (World.alloc W _) _) _) ⟨b, 0, none⟩ = _
        rw [((new_after _ _).frozen (by simp; omega)), ((new_after _ _).frozen (by simp; omega)), ((new_after _ _).frozen m1)]; exact hf
    · exact Or.inl rfl
    · refine ⟨[.int .i64 0, .int .i64 0, .int .i64 0, .int .i64 0], rfl, ?_, fun h => by cases h⟩
      intro k v hk
      match k, hk with
      | 0, hk => simp at hk; subst hk; simp [each4_sub_plan, go_sem]
      | 1, hk => simp at hk; subst hk; simp [each4_sub_plan, go_sem]
      | 2, hk => simp at hk; subst hk; simp [each4_sub_plan, go_sem]
      | 3, hk => simp at hk; subst hk; simp [each4_sub_plan, go_sem]
    · intro c hc
      simp only [each4_sub_plan, List.mem_cons, List.not_mem_nil, or_false] at hc
      rcases hc with rfl | rfl | rfl | rfl | rfl | rfl | rfl | rfl <;> simp [go_sem]
  · generalize hD : dstOf _ = D
    generalize hA : waitsFor _ = A
    generalize hZ : Act.mk _ _ = Z
    have d0 : D 0 = some 7 := by rw [← hD]; rfl
    have d1 : D 1 = some 8 := by rw [← hD]; rfl
    have d2 : D 2 = some 9 := by rw [← hD]; rfl
    have d3 : D 3 = some 10 := by rw [← hD]; rfl
    have d4 : D 4 = some 11 := by rw [← hD]; rfl
    have d5 : D 5 = some 12 := by rw [← hD]; rfl
    have d6 : D 6 = some 13 := by rw [← hD]; rfl
    have d7 : D 7 = some 14 := by rw [← hD]; rfl
    have d8 : D 8 = some 15 := by rw [← hD]; rfl
    have d9 : D 9 = some 16 := by rw [← hD]; rfl
    have d10 : D 10 = some 17 := by rw [← hD]; rfl
    have d11 : D 11 = some 18 := by rw [← hD]; rfl
    have d12 : D 12 = some 19 := by rw [← hD]; rfl
    have d13 : D 13 = some 20 := by rw [← hD]; rfl
    have d14 : D 14 = some 21 := by rw [← hD]; rfl
    have d15 : D 15 = some 22 := by rw [← hD]; rfl
    have d16 : D 16 = some 23 := by rw [← hD]; rfl
    have d17 : D 17 = some 24 := by rw [← hD]; rfl
    have d18 : D 18 = some 25 := by rw [← hD]; rfl
    have d19 : D 19 = some 26 := by rw [← hD]; rfl
    have d20 : D 20 = some 27 := by rw [← hD]; rfl
    have d21 : D 21 = some 28 := by rw [← hD]; rfl
    have d22 : D 22 = some 29 := by rw [← hD]; rfl
    have d23 : D 23 = some 30 := by rw [← hD]; rfl
    have d24 : D 24 = some 31 := by rw [← hD]; rfl
    have R0 : ∀ (γ : Nat → Nat) (L : Nat → Bool) (a : Act) (w : World), Held D A (shapeVal (each4_sub_sh b f x0 x1 x2 x3 y0 y1 y2 y3 W)) (Glob (each4_sub_plan b f x0 x1 x2 x3 y0 y1 y2 y3 W)) Z γ L a w → a.tmps[0]? = some (.func (.func 91) #[.pointer (some ⟨b, 0, none⟩)] #[]) := fun γ L a w hH => (hH.rest 0 (by rw [← hD]; exact dst_free (by kernel_rfl))).trans (by rw [← hZ]; rfl)
    have R4 : ∀ (γ : Nat → Nat) (L : Nat → Bool) (a : Act) (w : World), Held D A (shapeVal (each4_sub_sh b f x0 x1 x2 x3 y0 y1 y2 y3 W)) (Glob (each4_sub_plan b f x0 x1 x2 x3 y0 y1 y2 y3 W)) Z γ L a w → a.tmps[4]? = some (.pointer (some ⟨W.heap.size, 0, none⟩)) := fun γ L a w hH => (hH.rest 4 (by rw [← hD]; exact dst_free (by kernel_rfl))).trans (by rw [← hZ]; rfl)
    have R5 : ∀ (γ : Nat → Nat) (L : Nat → Bool) (a : Act) (w : World), Held D A (shapeVal (each4_sub_sh b f x0 x1 x2 x3 y0 y1 y2 y3 W)) (Glob (each4_sub_plan b f x0 x1 x2 x3 y0 y1 y2 y3 W)) Z γ L a w → a.tmps[5]? = some (.pointer (some ⟨W.heap.size + 1, 0, none⟩)) := fun γ L a w hH => (hH.rest 5 (by rw [← hD]; exact dst_free (by kernel_rfl))).trans (by rw [← hZ]; rfl)
    have R6 : ∀ (γ : Nat → Nat) (L : Nat → Bool) (a : Act) (w : World), Held D A (shapeVal (each4_sub_sh b f x0 x1 x2 x3 y0 y1 y2 y3 W)) (Glob (each4_sub_plan b f x0 x1 x2 x3 y0 y1 y2 y3 W)) Z γ L a w → a.tmps[6]? = some (.pointer (some ⟨W.heap.size + 1 + 1, 0, none⟩)) := fun γ L a w hH => (hH.rest 6 (by rw [← hD]; exact dst_free (by kernel_rfl))).trans (by rw [← hZ]; rfl)

    clear hD hA hZ
    refine AllDo.cons 0 rfl (does_pure _ rfl rfl (fun γ L a w hH hA => by have e1 := R0 γ L a w hH; simp [execOp, go_sem, e1])) ?_
    refine AllDo.cons 1 rfl (does_pure _ rfl rfl (fun γ L a w hH hA => by have e1 := R4 γ L a w hH; simp [execOp, go_sem, e1])) ?_
    refine AllDo.cons 2 rfl (does_pure _ rfl rfl (fun γ L a w hH hA => by have e1 := hH.at d1 (rfl : each4_sub_sh b f x0 x1 x2 x3 y0 y1 y2 y3 W 1 = _) (hA ⟨1, .data⟩ (by simp) rfl); have e2 := hH.glob.fix (⟨W.heap.size, 0, none⟩, .int .i64 (x0)) (by simp [each4_sub_plan]); simp [execOp, go_sem, e1, e2])) ?_
    refine AllDo.cons 3 rfl (does_pure _ rfl rfl (fun γ L a w hH hA => by have e1 := R5 γ L a w hH; simp [execOp, go_sem, e1])) ?_
    refine AllDo.cons 4 rfl (does_pure _ rfl rfl (fun γ L a w hH hA => by have e1 := hH.at d3 (rfl : each4_sub_sh b f x0 x1 x2 x3 y0 y1 y2 y3 W 3 = _) (hA ⟨3, .data⟩ (by simp) rfl); have e2 := hH.glob.fix (⟨W.heap.size + 1, 0, none⟩, .int .i64 (y0)) (by simp [each4_sub_plan]); simp [execOp, go_sem, e1, e2])) ?_
    refine AllDo.cons 5 rfl (does_call hπ _ ((sub (x0) (y0)).isNone) rfl (by simp [each4_sub_plan]) (calls_only (each4_sub_cn b f x0 x1 x2 x3 y0 y1 y2 y3 W) (by simp [each4_sub_plan])) rfl (fun γ L a w hH hA g hg hz => by have e1 := hH.at d0 (rfl : each4_sub_sh b f x0 x1 x2 x3 y0 y1 y2 y3 W 0 = _) (hA ⟨0, .data⟩ (by simp) rfl); have e2 := hH.at d2 (rfl : each4_sub_sh b f x0 x1 x2 x3 y0 y1 y2 y3 W 2 = _) (hA ⟨2, .data⟩ (by simp) rfl); have e3 := hH.at d4 (rfl : each4_sub_sh b f x0 x1 x2 x3 y0 y1 y2 y3 W 4 = _) (hA ⟨4, .data⟩ (by simp) rfl); exact ⟨91, #[.pointer (some ⟨b, 0, none⟩), .int .i64 (x0), .int .i64 (y0)], by simp [go_sem, e1, e2, e3], (sub_law b 0 g (x0) (y0) w hg hz).mono (by rintro e W1 ⟨v, g1, rfl, S, Z⟩; exact ⟨by rw [S.out.1], g1, S.out.2, Z.out⟩)⟩)) ?_
    refine AllDo.cons 6 rfl (does_pure _ rfl rfl (fun γ L a w hH hA => by have e1 := R0 γ L a w hH; simp [execOp, go_sem, e1])) ?_
    refine AllDo.cons 7 rfl (does_pure _ rfl rfl (fun γ L a w hH hA => by have e1 := R4 γ L a w hH; simp [execOp, go_sem, e1])) ?_
    refine AllDo.cons 8 rfl (does_pure _ rfl rfl (fun γ L a w hH hA => by have e1 := hH.at d7 (rfl : each4_sub_sh b f x0 x1 x2 x3 y0 y1 y2 y3 W 7 = _) (hA ⟨7, .data⟩ (by simp) rfl); have e2 := hH.glob.fix (⟨W.heap.size, 1, none⟩, .int .i64 (x1)) (by simp [each4_sub_plan]); simp [execOp, go_sem, e1, e2])) ?_
    refine AllDo.cons 9 rfl (does_pure _ rfl rfl (fun γ L a w hH hA => by have e1 := R5 γ L a w hH; simp [execOp, go_sem, e1])) ?_
    refine AllDo.cons 10 rfl (does_pure _ rfl rfl (fun γ L a w hH hA => by have e1 := hH.at d9 (rfl : each4_sub_sh b f x0 x1 x2 x3 y0 y1 y2 y3 W 9 = _) (hA ⟨9, .data⟩ (by simp) rfl); have e2 := hH.glob.fix (⟨W.heap.size + 1, 1, none⟩, .int .i64 (y1)) (by simp [each4_sub_plan]); simp [execOp, go_sem, e1, e2])) ?_
    refine AllDo.cons 11 rfl (does_call hπ _ ((sub (x1) (y1)).isNone) rfl (by simp [each4_sub_plan]) (calls_only (each4_sub_cn b f x0 x1 x2 x3 y0 y1 y2 y3 W) (by simp [each4_sub_plan])) rfl (fun γ L a w hH hA g hg hz => by have e1 := hH.at d6 (rfl : each4_sub_sh b f x0 x1 x2 x3 y0 y1 y2 y3 W 6 = _) (hA ⟨6, .data⟩ (by simp) rfl); have e2 := hH.at d8 (rfl : each4_sub_sh b f x0 x1 x2 x3 y0 y1 y2 y3 W 8 = _) (hA ⟨8, .data⟩ (by simp) rfl); have e3 := hH.at d10 (rfl : each4_sub_sh b f x0 x1 x2 x3 y0 y1 y2 y3 W 10 = _) (hA ⟨10, .data⟩ (by simp) rfl); exact ⟨91, #[.pointer (some ⟨b, 0, none⟩), .int .i64 (x1), .int .i64 (y1)], by simp [go_sem, e1, e2, e3], (sub_law b 0 g (x1) (y1) w hg hz).mono (by rintro e W1 ⟨v, g1, rfl, S, Z⟩; exact ⟨by rw [S.out.1], g1, S.out.2, Z.out⟩)⟩)) ?_
    refine AllDo.cons 12 rfl (does_pure _ rfl rfl (fun γ L a w hH hA => by have e1 := R0 γ L a w hH; simp [execOp, go_sem, e1])) ?_
    refine AllDo.cons 13 rfl (does_pure _ rfl rfl (fun γ L a w hH hA => by have e1 := R4 γ L a w hH; simp [execOp, go_sem, e1])) ?_
    refine AllDo.cons 14 rfl (does_pure _ rfl rfl (fun γ L a w hH hA => by have e1 := hH.at d13 (rfl : each4_sub_sh b f x0 x1 x2 x3 y0 y1 y2 y3 W 13 = _) (hA ⟨13, .data⟩ (by simp) rfl); have e2 := hH.glob.fix (⟨W.heap.size, 2, none⟩, .int .i64 (x2)) (by simp [each4_sub_plan]); simp [execOp, go_sem, e1, e2])) ?_
    refine AllDo.cons 15 rfl (does_pure _ rfl rfl (fun γ L a w hH hA => by have e1 := R5 γ L a w hH; simp [execOp, go_sem, e1])) ?_
    refine AllDo.cons 16 rfl (does_pure _ rfl rfl (fun γ L a w hH hA => by have e1 := hH.at d15 (rfl : each4_sub_sh b f x0 x1 x2 x3 y0 y1 y2 y3 W 15 = _) (hA ⟨15, .data⟩ (by simp) rfl); have e2 := hH.glob.fix (⟨W.heap.size + 1, 2, none⟩, .int .i64 (y2)) (by simp [each4_sub_plan]); simp [execOp, go_sem, e1, e2])) ?_
    refine AllDo.cons 17 rfl (does_call hπ _ ((sub (x2) (y2)).isNone) rfl (by simp [each4_sub_plan]) (calls_only (each4_sub_cn b f x0 x1 x2 x3 y0 y1 y2 y3 W) (by simp [each4_sub_plan])) rfl (fun γ L a w hH hA g hg hz => by have e1 := hH.at d12 (rfl : each4_sub_sh b f x0 x1 x2 x3 y0 y1 y2 y3 W 12 = _) (hA ⟨12, .data⟩ (by simp) rfl); have e2 := hH.at d14 (rfl : each4_sub_sh b f x0 x1 x2 x3 y0 y1 y2 y3 W 14 = _) (hA ⟨14, .data⟩ (by simp) rfl); have e3 := hH.at d16 (rfl : each4_sub_sh b f x0 x1 x2 x3 y0 y1 y2 y3 W 16 = _) (hA ⟨16, .data⟩ (by simp) rfl); exact ⟨91, #[.pointer (some ⟨b, 0, none⟩), .int .i64 (x2), .int .i64 (y2)], by simp [go_sem, e1, e2, e3], (sub_law b 0 g (x2) (y2) w hg hz).mono (by rintro e W1 ⟨v, g1, rfl, S, Z⟩; exact ⟨by rw [S.out.1], g1, S.out.2, Z.out⟩)⟩)) ?_
    refine AllDo.cons 18 rfl (does_pure _ rfl rfl (fun γ L a w hH hA => by have e1 := R0 γ L a w hH; simp [execOp, go_sem, e1])) ?_
    refine AllDo.cons 19 rfl (does_pure _ rfl rfl (fun γ L a w hH hA => by have e1 := R4 γ L a w hH; simp [execOp, go_sem, e1])) ?_
    refine AllDo.cons 20 rfl (does_pure _ rfl rfl (fun γ L a w hH hA => by have e1 := hH.at d19 (rfl : each4_sub_sh b f x0 x1 x2 x3 y0 y1 y2 y3 W 19 = _) (hA ⟨19, .data⟩ (by simp) rfl); have e2 := hH.glob.fix (⟨W.heap.size, 3, none⟩, .int .i64 (x3)) (by simp [each4_sub_plan]); simp [execOp, go_sem, e1, e2])) ?_
    refine AllDo.cons 21 rfl (does_pure _ rfl rfl (fun γ L a w hH hA => by have e1 := R5 γ L a w hH; simp [execOp, go_sem, e1])) ?_
    refine AllDo.cons 22 rfl (does_pure _ rfl rfl (fun γ L a w hH hA => by have e1 := hH.at d21 (rfl : each4_sub_sh b f x0 x1 x2 x3 y0 y1 y2 y3 W 21 = _) (hA ⟨21, .data⟩ (by simp) rfl); have e2 := hH.glob.fix (⟨W.heap.size + 1, 3, none⟩, .int .i64 (y3)) (by simp [each4_sub_plan]); simp [execOp, go_sem, e1, e2])) ?_
    refine AllDo.cons 23 rfl (does_call hπ _ ((sub (x3) (y3)).isNone) rfl (by simp [each4_sub_plan]) (calls_only (each4_sub_cn b f x0 x1 x2 x3 y0 y1 y2 y3 W) (by simp [each4_sub_plan])) rfl (fun γ L a w hH hA g hg hz => by have e1 := hH.at d18 (rfl : each4_sub_sh b f x0 x1 x2 x3 y0 y1 y2 y3 W 18 = _) (hA ⟨18, .data⟩ (by simp) rfl); have e2 := hH.at d20 (rfl : each4_sub_sh b f x0 x1 x2 x3 y0 y1 y2 y3 W 20 = _) (hA ⟨20, .data⟩ (by simp) rfl); have e3 := hH.at d22 (rfl : each4_sub_sh b f x0 x1 x2 x3 y0 y1 y2 y3 W 22 = _) (hA ⟨22, .data⟩ (by simp) rfl); exact ⟨91, #[.pointer (some ⟨b, 0, none⟩), .int .i64 (x3), .int .i64 (y3)], by simp [go_sem, e1, e2, e3], (sub_law b 0 g (x3) (y3) w hg hz).mono (by rintro e W1 ⟨v, g1, rfl, S, Z⟩; exact ⟨by rw [S.out.1], g1, S.out.2, Z.out⟩)⟩)) ?_
    refine AllDo.cons 24 rfl (does_pure _ rfl rfl (fun γ L a w hH hA => by have e1 := hH.at d5 (rfl : each4_sub_sh b f x0 x1 x2 x3 y0 y1 y2 y3 W 5 = _) (hA ⟨5, .data⟩ (by simp) rfl); have e2 := hH.at d11 (rfl : each4_sub_sh b f x0 x1 x2 x3 y0 y1 y2 y3 W 11 = _) (hA ⟨11, .data⟩ (by simp) rfl); have e3 := hH.at d17 (rfl : each4_sub_sh b f x0 x1 x2 x3 y0 y1 y2 y3 W 17 = _) (hA ⟨17, .data⟩ (by simp) rfl); have e4 := hH.at d23 (rfl : each4_sub_sh b f x0 x1 x2 x3 y0 y1 y2 y3 W 23 = _) (hA ⟨23, .data⟩ (by simp) rfl); simp [execOp, go_sem, e1, e2, e3, e4])) ?_
    refine AllDo.cons 25 rfl (does_store hπ (by simp [each4_sub_plan]) rfl rfl (by simp [each4_sub_plan]) (by simp [each4_sub_plan]) (by simp [each4_sub_plan]) (fun γ L a w hH hA cs hl hh => by have e1 := R6 γ L a w hH; have e2 := hH.at d24 (rfl : each4_sub_sh b f x0 x1 x2 x3 y0 y1 y2 y3 W 24 = _) (hA ⟨24, .data⟩ (by simp) rfl); obtain ⟨u0, u1, u2, u3, rfl⟩ := list4 hl; have zz0 : w.cell? ⟨W.heap.size + 1 + 1, 0, none⟩ = some u0 ∧ w.frozen? ⟨W.heap.size + 1 + 1, 0, none⟩ = false := hh 0 u0 rfl; have zz1 : w.cell? ⟨W.heap.size + 1 + 1, 1, none⟩ = some u1 ∧ w.frozen? ⟨W.heap.size + 1 + 1, 1, none⟩ = false := hh 1 u1 rfl; have zz2 : w.cell? ⟨W.heap.size + 1 + 1, 2, none⟩ = some u2 ∧ w.frozen? ⟨W.heap.size + 1 + 1, 2, none⟩ = false := hh 2 u2 rfl; have zz3 : w.cell? ⟨W.heap.size + 1 + 1, 3, none⟩ = some u3 ∧ w.frozen? ⟨W.heap.size + 1 + 1, 3, none⟩ = false := hh 3 u3 rfl; exact ⟨((((w.setCell ⟨W.heap.size + 1 + 1, 0, none⟩ (.int .i64 ((sub (x0) (y0)).getD 0))).setCell ⟨W.heap.size + 1 + 1, 1, none⟩ (.int .i64 ((sub (x1) (y1)).getD 0))).setCell ⟨W.heap.size + 1 + 1, 2, none⟩ (.int .i64 ((sub (x2) (y2)).getD 0))).setCell ⟨W.heap.size + 1 + 1, 3, none⟩ (.int .i64 ((sub (x3) (y3)).getD 0))), by simp [execOp, go_sem, e1, e2, zz0.1, zz0.2, zz1.1, zz1.2, zz2.1, zz2.2, zz3.1, zz3.2], (((((Only.refl _ _).set 0 _).set 1 _).set 2 _).set 3 _), holds4 hh⟩)) ?_
    exact AllDo.nil
  · intro γ a w L hL hLo hH
    have hL' : ∀ j, j < 26 → L j = true := fun j hj => hL j hj
    have hG := hH.glob
    have hdf : a.defers = [] := hH.defers.trans rfl
    have hs : a.tmps[6]? = some (.pointer (some ⟨W.heap.size + 1 + 1, 0, none⟩)) := (hH.rest 6 (dst_free (by kernel_rfl))).trans rfl
    have hfl := hG.flagAll hπ (fun c hc => hL' c.1 (by simp only [each4_sub_plan, List.mem_cons, List.not_mem_nil, or_false] at hc; rcases hc with rfl | rfl | rfl | rfl <;> simp))
    obtain ⟨cs, c1, c2, c3⟩ := hG.res
    obtain rfl := c3 (hL' 25 (by omega))
    have hA : Hid (After ⟨b, 0, none⟩ (each4_sub_bad b f x0 x1 x2 x3 y0 y1 y2 y3 W) W w) := hG.leaves.done hfl.1 hfl.2
    have r0 : w.cell? ⟨W.heap.size + 1 + 1, 0, none⟩ = some (.int .i64 ((sub (x0) (y0)).getD 0)) := (c2 0 _ rfl).1
    have r1 : w.cell? ⟨W.heap.size + 1 + 1, 1, none⟩ = some (.int .i64 ((sub (x1) (y1)).getD 0)) := (c2 1 _ rfl).1
    have r2 : w.cell? ⟨W.heap.size + 1 + 1, 2, none⟩ = some (.int .i64 ((sub (x2) (y2)).getD 0)) := (c2 2 _ rfl).1
    have r3 : w.cell? ⟨W.heap.size + 1 + 1, 3, none⟩ = some (.int .i64 ((sub (x3) (y3)).getD 0)) := (c2 3 _ rfl).1
    clear hL hLo hL' hH hG c1 c2 c3 hfl hπ
    go_wp2
    refine bodyPost_ret (by simp [results, Tryz.results89, go_sem, hs, r0, r1, r2, r3]; try rfl) hdf ?_
    exact ⟨_, rfl, by show _ = _; simp [each4_sub_bad, Bool.or_assoc], hA⟩

end Go.Proofs.YtompnibhfdkkjaaGreat
