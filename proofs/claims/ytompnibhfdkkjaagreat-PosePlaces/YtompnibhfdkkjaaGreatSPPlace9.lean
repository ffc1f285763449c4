/- Package vec's inner function each. -/
import Derived.Test.YtompnibhfdkkjaaGreatSPPlace8
namespace Go.Proofs.YtompnibhfdkkjaaGreat
open Go.RowKit Fx
set_option linter.unusedVariables false

def each_add_bad (b : Nat) (f : Bool) (x0 x1 x2 y0 y1 y2 : Int) (W : World) : Bool := f || ([(5, (add (x0) (y0)).isNone), (11, (add (x1) (y1)).isNone), (17, (add (x2) (y2)).isNone)] : List (Nat × Bool)).any (·.2)

def each_add_sh (b : Nat) (f : Bool) (x0 x1 x2 y0 y1 y2 : Int) (W : World) : Nat → Shape
  | 0 => .is (.func (.func 90) #[.pointer (some ⟨b, 0, none⟩)] #[])
  | 1 => .is (.pointer (some ⟨W.heap.size, 0, none⟩))
  | 2 => .is (.int .i64 (x0))
  | 3 => .is (.pointer (some ⟨W.heap.size + 1, 0, none⟩))
  | 4 => .is (.int .i64 (y0))
  | 5 => .is (.int .i64 ((add (x0) (y0)).getD 0))
  | 6 => .is (.func (.func 90) #[.pointer (some ⟨b, 0, none⟩)] #[])
  | 7 => .is (.pointer (some ⟨W.heap.size, 1, none⟩))
  | 8 => .is (.int .i64 (x1))
  | 9 => .is (.pointer (some ⟨W.heap.size + 1, 1, none⟩))
  | 10 => .is (.int .i64 (y1))
  | 11 => .is (.int .i64 ((add (x1) (y1)).getD 0))
  | 12 => .is (.func (.func 90) #[.pointer (some ⟨b, 0, none⟩)] #[])
  | 13 => .is (.pointer (some ⟨W.heap.size, 2, none⟩))
  | 14 => .is (.int .i64 (x2))
  | 15 => .is (.pointer (some ⟨W.heap.size + 1, 2, none⟩))
  | 16 => .is (.int .i64 (y2))
  | 17 => .is (.int .i64 ((add (x2) (y2)).getD 0))
  | 18 => .is (.agg #[.int .i64 ((add (x0) (y0)).getD 0), .int .i64 ((add (x1) (y1)).getD 0), .int .i64 ((add (x2) (y2)).getD 0)])
  | 19 => .ptr
  | _ => .ptr

def each_add_plan (b : Nat) (f : Bool) (x0 x1 x2 y0 y1 y2 : Int) (W : World) : Plan where
  W := W
  N := W.heap.size + 1 + 1 + 1
  p := ⟨b, 0, none⟩
  fl := ⟨b, 0, none⟩
  g0 := f
  bad := each_add_bad b f x0 x1 x2 y0 y1 y2 W
  f := f
  calls := [(5, (add (x0) (y0)).isNone), (11, (add (x1) (y1)).isNone), (17, (add (x2) (y2)).isNone)]
  tl := 100000
  st := 19
  r := W.heap.size + 1 + 1
  res := [.int .i64 ((add (x0) (y0)).getD 0), .int .i64 ((add (x1) (y1)).getD 0), .int .i64 ((add (x2) (y2)).getD 0)]
  fixed := [(⟨W.heap.size, 0, none⟩, .int .i64 (x0)),
    (⟨W.heap.size + 1, 0, none⟩, .int .i64 (y0)),
    (⟨W.heap.size, 1, none⟩, .int .i64 (x1)),
    (⟨W.heap.size + 1, 1, none⟩, .int .i64 (y1)),
    (⟨W.heap.size, 2, none⟩, .int .i64 (x2)),
    (⟨W.heap.size + 1, 2, none⟩, .int .i64 (y2))]
  made := []

theorem each_add_cn (b : Nat) (f : Bool) (x0 x1 x2 y0 y1 y2 : Int) (W : World) : ((each_add_plan b f x0 x1 x2 y0 y1 y2 W).calls.map (·.1)).Nodup := of_decide_eq_true rfl
theorem each_add_bads (b : Nat) (f : Bool) (x0 x1 x2 y0 y1 y2 : Int) (W : World) : ((each_add_plan b f x0 x1 x2 y0 y1 y2 W).bad = true → (each_add_plan b f x0 x1 x2 y0 y1 y2 W).g0 = true ∨ ∃ c ∈ (each_add_plan b f x0 x1 x2 y0 y1 y2 W).calls, c.2 = true) ∧ ∀ c ∈ (each_add_plan b f x0 x1 x2 y0 y1 y2 W).calls, c.2 = true → (each_add_plan b f x0 x1 x2 y0 y1 y2 W).bad = true :=
  bad_any_of _ rfl

set_option maxHeartbeats 4000000 in
theorem each_add_any (b : Nat) (f : Bool) (x0 x1 x2 y0 y1 y2 : Int) (W : World) (hc : W.cell? ⟨b, 0, none⟩ = some (.bool f)) (hf : W.frozen? ⟨b, 0, none⟩ = false) :
    Calls Tryz.prog 95 #[.func (.func 90) #[.pointer (some ⟨b, 0, none⟩)] #[], .agg #[.int .i64 (x0), .int .i64 (x1), .int .i64 (x2)], .agg #[.int .i64 (y0), .int .i64 (y1), .int .i64 (y2)]] W fun e W' =>
      ∃ g, e = .returned (.agg #[.int .i64 ((add x0 y0).getD 0), .int .i64 ((add x1 y1).getD 0), .int .i64 ((add x2 y2).getD 0)]) ∧ Hid (g = (f || ((add x0 y0).isNone || (add x1 y1).isNone || (add x2 y2).isNone))) ∧ Hid (After ⟨b, 0, none⟩ g W W') := by
  have m1 : b < W.heap.size := World.block_lt_of_cell? _ _ hc
  go_enter Tryz.func95, Tryz.ntmps95
  go_wp2
  have hπ : (each_add_plan b f x0 x1 x2 y0 y1 y2 W).Good := by
    refine good_of ?_ ?_ ?_ ?_ ?_ ?_ ?_ (each_add_bads b f x0 x1 x2 y0 y1 y2 W).1 (each_add_bads b f x0 x1 x2 y0 y1 y2 W).2
    · show W.heap.size ≤ W.heap.size + 1 + 1; omega
    · show W.heap.size + 1 + 1 < W.heap.size + 1 + 1 + 1; omega
    · exact Or.inl rfl
    · show b < W.heap.size + 1 + 1 + 1; omega
    · show b ≠ W.heap.size + 1 + 1; omega
    · exact m1
    · intro c hc; simp only [each_add_plan, List.mem_cons, List.not_mem_nil, or_false] at hc; rcases hc with rfl | rfl | rfl | rfl | rfl | rfl <;> (show _ < W.heap.size + 1 + 1 + 1 ∧ _ ≠ b ∧ _ ≠ b ∧ _ ≠ W.heap.size + 1 + 1) <;> (dsimp only) <;> omega
  refine region_by (shapeVal (each_add_sh b f x0 x1 x2 y0 y1 y2 W)) (Glob (each_add_plan b f x0 x1 x2 y0 y1 y2 W)) (by kernel_rfl) (by kernel_rfl) (by kernel_rfl) (by kernel_rfl) (fun _ => 0) ?_ ?_ ?_
  · refine ⟨?_, ?_, ?_, ?_, ?_, ?_, (fun _ _ h => by cases h), (fun _ _ _ _ h => by cases h)⟩
    · exact ((((Leaves.refl _ _).alloc _).alloc _).alloc _).drew
    · show W.heap.size + 1 + 1 + 1 ≤ _; simp
    · refine ⟨f, ?_, ?_, fun h => by show each_add_bad b f x0 x1 x2 y0 y1 y2 W = true; simp [each_add_bad, h], fun h => h, fun _ _ h => by cases h⟩
      · show World.cell? (World.alloc (World.alloc (World.alloc W _) _) _) ⟨b, 0, none⟩ = _
        rw [World.cell?_alloc_past _ _ _ (by simp; omega), World.cell?_alloc_past _ _ _ (by simp; omega), World.cell?_alloc_past _ _ _ m1]; exact hc
      · show World.frozen? (World.alloc (World.alloc (World.alloc W _) _) _) ⟨b, 0, none⟩ = _
        rw [((new_after _ _).frozen (by simp; omega)), ((new_after _ _).frozen (by simp; omega)), ((new_after _ _).frozen m1)]; exact hf
    · exact Or.inl rfl
    · refine ⟨[.int .i64 0, .int .i64 0, .int .i64 0], rfl, ?_, fun h => by cases h⟩
      intro k v hk
      match k, hk with
      | 0, hk => simp at hk; subst hk; simp [each_add_plan, go_sem]
      | 1, hk => simp at hk; subst hk; simp [each_add_plan, go_sem]
      | 2, hk => simp at hk; subst hk; simp [each_add_plan, go_sem]
    · intro c hc
      simp only [each_add_plan, List.mem_cons, List.not_mem_nil, or_false] at hc
      rcases hc with rfl | rfl | rfl | rfl | rfl | rfl <;> simp [go_sem]
  · generalize hD : dstOf _ = D
    generalize hA : waitsFor _ = A
    generalize hZ : Act.mk _ _ = Z
    have d0 : D 0 = some 7 := by rw [← hD]; rfl
    have d1 : D 1 = some 8 := by rw [← hD]; rfl
    have d2 : D 2 = some 9 := by rw [← hD]; rfl
    have d3 : D 3 = some 10 := by rw [← hD]; rfl
    have d4 : D 4 = some 11 := by rw [← hD]; rfl
    have d5 : D 5 = some 12 := by rw [← hD]; rfl
    have d6 : D 6 = some 13 := by rw [← hD]; rfl
    have d7 : D 7 = some 14 := by rw [← hD]; rfl
    have d8 : D 8 = some 15 := by rw [← hD]; rfl
    have d9 : D 9 = some 16 := by rw [← hD]; rfl
    have d10 : D 10 = some 17 := by rw [← hD]; rfl
    have d11 : D 11 = some 18 := by rw [← hD]; rfl
    have d12 : D 12 = some 19 := by rw [← hD]; rfl
    have d13 : D 13 = some 20 := by rw [← hD]; rfl
    have d14 : D 14 = some 21 := by rw [← hD]; rfl
    have d15 : D 15 = some 22 := by rw [← hD]; rfl
    have d16 : D 16 = some 23 := by rw [← hD]; rfl
    have d17 : D 17 = some 24 := by rw [← hD]; rfl
    have d18 : D 18 = some 25 := by rw [← hD]; rfl
    have R0 : ∀ (γ : Nat → Nat) (L : Nat → Bool) (a : Act) (w : World), Held D A (shapeVal (each_add_sh b f x0 x1 x2 y0 y1 y2 W)) (Glob (each_add_plan b f x0 x1 x2 y0 y1 y2 W)) Z γ L a w → a.tmps[0]? = some (.func (.func 90) #[.pointer (some ⟨b, 0, none⟩)] #[]) := fun γ L a w hH => (hH.rest 0 (by rw [← hD]; exact dst_free (by kernel_rfl))).trans (by rw [← hZ]; rfl)
    have R4 : ∀ (γ : Nat → Nat) (L : Nat → Bool) (a : Act) (w : World), Held D A (shapeVal (each_add_sh b f x0 x1 x2 y0 y1 y2 W)) (Glob (each_add_plan b f x0 x1 x2 y0 y1 y2 W)) Z γ L a w → a.tmps[4]? = some (.pointer (some ⟨W.heap.size, 0, none⟩)) := fun γ L a w hH => (hH.rest 4 (by rw [← hD]; exact dst_free (by kernel_rfl))).trans (by rw [← hZ]; rfl)
    have R5 : ∀ (γ : Nat → Nat) (L : Nat → Bool) (a : Act) (w : World), Held D A (shapeVal (each_add_sh b f x0 x1 x2 y0 y1 y2 W)) (Glob (each_add_plan b f x0 x1 x2 y0 y1 y2 W)) Z γ L a w → a.tmps[5]? = some (.pointer (some ⟨W.heap.size + 1, 0, none⟩)) := fun γ L a w hH => (hH.rest 5 (by rw [← hD]; exact dst_free (by kernel_rfl))).trans (by rw [← hZ]; rfl)
    have R6 : ∀ (γ : Nat → Nat) (L : Nat → Bool) (a : Act) (w : World), Held D A (shapeVal (each_add_sh b f x0 x1 x2 y0 y1 y2 W)) (Glob (each_add_plan b f x0 x1 x2 y0 y1 y2 W)) Z γ L a w → a.tmps[6]? = some (.pointer (some ⟨W.heap.size + 1 + 1, 0, none⟩)) := fun γ L a w hH => (hH.rest 6 (by rw [← hD]; exact dst_free (by kernel_rfl))).trans (by rw [← hZ]; rfl)

    clear hD hA hZ
    refine AllDo.cons 0 rfl (does_pure _ rfl rfl (fun γ L a w hH hA => by have e1 := R0 γ L a w hH; simp [execOp, go_sem, e1])) ?_
    refine AllDo.cons 1 rfl (does_pure _ rfl rfl (fun γ L a w hH hA => by have e1 := R4 γ L a w hH; simp [execOp, go_sem, e1])) ?_
    refine AllDo.cons 2 rfl (does_pure _ rfl rfl (fun γ L a w hH hA => by have e1 := hH.at d1 (rfl : each_add_sh b f x0 x1 x2 y0 y1 y2 W 1 = _) (hA ⟨1, .data⟩ (by simp) rfl); have e2 := hH.glob.fix (⟨W.heap.size, 0, none⟩, .int .i64 (x0)) (by simp [each_add_plan]); simp [execOp, go_sem, e1, e2])) ?_
    refine AllDo.cons 3 rfl (does_pure _ rfl rfl (fun γ L a w hH hA => by have e1 := R5 γ L a w hH; simp [execOp, go_sem, e1])) ?_
    refine AllDo.cons 4 rfl (does_pure _ rfl rfl (fun γ L a w hH hA => by have e1 := hH.at d3 (rfl : each_add_sh b f x0 x1 x2 y0 y1 y2 W 3 = _) (hA ⟨3, .data⟩ (by simp) rfl); have e2 := hH.glob.fix (⟨W.heap.size + 1, 0, none⟩, .int .i64 (y0)) (by simp [each_add_plan]); simp [execOp, go_sem, e1, e2])) ?_
    refine AllDo.cons 5 rfl (does_call hπ _ ((add (x0) (y0)).isNone) rfl (by simp [each_add_plan]) (calls_only (each_add_cn b f x0 x1 x2 y0 y1 y2 W) (by simp [each_add_plan])) rfl (fun γ L a w hH hA g hg hz => by have e1 := hH.at d0 (rfl : each_add_sh b f x0 x1 x2 y0 y1 y2 W 0 = _) (hA ⟨0, .data⟩ (by simp) rfl); have e2 := hH.at d2 (rfl : each_add_sh b f x0 x1 x2 y0 y1 y2 W 2 = _) (hA ⟨2, .data⟩ (by simp) rfl); have e3 := hH.at d4 (rfl : each_add_sh b f x0 x1 x2 y0 y1 y2 W 4 = _) (hA ⟨4, .data⟩ (by simp) rfl); exact ⟨90, #[.pointer (some ⟨b, 0, none⟩), .int .i64 (x0), .int .i64 (y0)], by simp [go_sem, e1, e2, e3], (add_law b 0 g (x0) (y0) w hg hz).mono (by rintro e W1 ⟨v, g1, rfl, S, Z⟩; exact ⟨by rw [S.out.1], g1, S.out.2, Z.out⟩)⟩)) ?_
    refine AllDo.cons 6 rfl (does_pure _ rfl rfl (fun γ L a w hH hA => by have e1 := R0 γ L a w hH; simp [execOp, go_sem, e1])) ?_
    refine AllDo.cons 7 rfl (does_pure _ rfl rfl (fun γ L a w hH hA => by have e1 := R4 γ L a w hH; simp [execOp, go_sem, e1])) ?_
    refine AllDo.cons 8 rfl (does_pure _ rfl rfl (fun γ L a w hH hA => by have e1 := hH.at d7 (rfl : each_add_sh b f x0 x1 x2 y0 y1 y2 W 7 = _) (hA ⟨7, .data⟩ (by simp) rfl); have e2 := hH.glob.fix (⟨W.heap.size, 1, none⟩, .int .i64 (x1)) (by simp [each_add_plan]); simp [execOp, go_sem, e1, e2])) ?_
    refine AllDo.cons 9 rfl (does_pure _ rfl rfl (fun γ L a w hH hA => by have e1 := R5 γ L a w hH; simp [execOp, go_sem, e1])) ?_
    refine AllDo.cons 10 rfl (does_pure _ rfl rfl (fun γ L a w hH hA => by have e1 := hH.at d9 (rfl : each_add_sh b f x0 x1 x2 y0 y1 y2 W 9 = _) (hA ⟨9, .data⟩ (by simp) rfl); have e2 := hH.glob.fix (⟨W.heap.size + 1, 1, none⟩, .int .i64 (y1)) (by simp [each_add_plan]); simp [execOp, go_sem, e1, e2])) ?_
    refine AllDo.cons 11 rfl (does_call hπ _ ((add (x1) (y1)).isNone) rfl (by simp [each_add_plan]) (calls_only (each_add_cn b f x0 x1 x2 y0 y1 y2 W) (by simp [each_add_plan])) rfl (fun γ L a w hH hA g hg hz => by have e1 := hH.at d6 (rfl : each_add_sh b f x0 x1 x2 y0 y1 y2 W 6 = _) (hA ⟨6, .data⟩ (by simp) rfl); have e2 := hH.at d8 (rfl : each_add_sh b f x0 x1 x2 y0 y1 y2 W 8 = _) (hA ⟨8, .data⟩ (by simp) rfl); have e3 := hH.at d10 (rfl : each_add_sh b f x0 x1 x2 y0 y1 y2 W 10 = _) (hA ⟨10, .data⟩ (by simp) rfl); exact ⟨90, #[.pointer (some ⟨b, 0, none⟩), .int .i64 (x1), .int .i64 (y1)], by simp [go_sem, e1, e2, e3], (add_law b 0 g (x1) (y1) w hg hz).mono (by rintro e W1 ⟨v, g1, rfl, S, Z⟩; exact ⟨by rw [S.out.1], g1, S.out.2, Z.out⟩)⟩)) ?_
    refine AllDo.cons 12 rfl (does_pure _ rfl rfl (fun γ L a w hH hA => by have e1 := R0 γ L a w hH; simp [execOp, go_sem, e1])) ?_
    refine AllDo.cons 13 rfl (does_pure _ rfl rfl (fun γ L a w hH hA => by have e1 := R4 γ L a w hH; simp [execOp, go_sem, e1])) ?_
    refine AllDo.cons 14 rfl (does_pure _ rfl rfl (fun γ L a w hH hA => by have e1 := hH.at d13 (rfl : each_add_sh b f x0 x1 x2 y0 y1 y2 W 13 = _) (hA ⟨13, .data⟩ (by simp) rfl); have e2 := hH.glob.fix (⟨W.heap.size, 2, none⟩, .int .i64 (x2)) (by simp [each_add_plan]); simp [execOp, go_sem, e1, e2])) ?_
    refine AllDo.cons 15 rfl (does_pure _ rfl rfl (fun γ L a w hH hA => by have e1 := R5 γ L a w hH; simp [execOp, go_sem, e1])) ?_
    refine AllDo.cons 16 rfl (does_pure _ rfl rfl (fun γ L a w hH hA => by have e1 := hH.at d15 (rfl : each_add_sh b f x0 x1 x2 y0 y1 y2 W 15 = _) (hA ⟨15, .data⟩ (by simp) rfl); have e2 := hH.glob.fix (⟨W.heap.size + 1, 2, none⟩, .int .i64 (y2)) (by simp [each_add_plan]); simp [execOp, go_sem, e1, e2])) ?_
    refine AllDo.cons 17 rfl (does_call hπ _ ((add (x2) (y2)).isNone) rfl (by simp [each_add_plan]) (calls_only (each_add_cn b f x0 x1 x2 y0 y1 y2 W) (by simp [each_add_plan])) rfl (fun γ L a w hH hA g hg hz => by have e1 := hH.at d12 (rfl : each_add_sh b f x0 x1 x2 y0 y1 y2 W 12 = _) (hA ⟨12, .data⟩ (by simp) rfl); have e2 := hH.at d14 (rfl : each_add_sh b f x0 x1 x2 y0 y1 y2 W 14 = _) (hA ⟨14, .data⟩ (by simp) rfl); have e3 := hH.at d16 (rfl : each_add_sh b f x0 x1 x2 y0 y1 y2 W 16 = _) (hA ⟨16, .data⟩ (by simp) rfl); exact ⟨90, #[.pointer (some ⟨b, 0, none⟩), .int .i64 (x2), .int .i64 (y2)], by simp [go_sem, e1, e2, e3], (add_law b 0 g (x2) (y2) w hg hz).mono (by rintro e W1 ⟨v, g1, rfl, S, Z⟩; exact ⟨by rw [S.out.1], g1, S.out.2, Z.out⟩)⟩)) ?_
    refine AllDo.cons 18 rfl (does_pure _ rfl rfl (fun γ L a w hH hA => by have e1 := hH.at d5 (rfl : each_add_sh b f x0 x1 x2 y0 y1 y2 W 5 = _) (hA ⟨5, .data⟩ (by simp) rfl); have e2 := hH.at d11 (rfl : each_add_sh b f x0 x1 x2 y0 y1 y2 W 11 = _) (hA ⟨11, .data⟩ (by simp) rfl); have e3 := hH.at d17 (rfl : each_add_sh b f x0 x1 x2 y0 y1 y2 W 17 = _) (hA ⟨17, .data⟩ (by simp) rfl); simp [execOp, go_sem, e1, e2, e3])) ?_
    refine AllDo.cons 19 rfl (does_store hπ (by simp [each_add_plan]) rfl rfl (by simp [each_add_plan]) (by simp [each_add_plan]) (by simp [each_add_plan]) (fun γ L a w hH hA cs hl hh => by have e1 := R6 γ L a w hH; have e2 := hH.at d18 (rfl : each_add_sh b f x0 x1 x2 y0 y1 y2 W 18 = _) (hA ⟨18, .data⟩ (by simp) rfl); obtain ⟨u0, u1, u2, rfl⟩ := list3 hl; have zz0 : w.cell? ⟨W.heap.size + 1 + 1, 0, none⟩ = some u0 ∧ w.frozen? ⟨W.heap.size + 1 + 1, 0, none⟩ = false := hh 0 u0 rfl; have zz1 : w.cell? ⟨W.heap.size + 1 + 1, 1, none⟩ = some u1 ∧ w.frozen? ⟨W.heap.size + 1 + 1, 1, none⟩ = false := hh 1 u1 rfl; have zz2 : w.cell? ⟨W.heap.size + 1 + 1, 2, none⟩ = some u2 ∧ w.frozen? ⟨W.heap.size + 1 + 1, 2, none⟩ = false := hh 2 u2 rfl; exact ⟨(((w.setCell ⟨W.heap.size + 1 + 1, 0, none⟩ (.int .i64 ((add (x0) (y0)).getD 0))).setCell ⟨W.heap.size + 1 + 1, 1, none⟩ (.int .i64 ((add (x1) (y1)).getD 0))).setCell ⟨W.heap.size + 1 + 1, 2, none⟩ (.int .i64 ((add (x2) (y2)).getD 0))), by simp [execOp, go_sem, e1, e2, zz0.1, zz0.2, zz1.1, zz1.2, zz2.1, zz2.2], ((((Only.refl _ _).set 0 _).set 1 _).set 2 _), holds3 hh⟩)) ?_
    exact AllDo.nil
  · intro γ a w L hL hLo hH
    have hL' : ∀ j, j < 20 → L j = true := fun j hj => hL j hj
    have hG := hH.glob
    have hdf : a.defers = [] := hH.defers.trans rfl
    have hs : a.tmps[6]? = some (.pointer (some ⟨W.heap.size + 1 + 1, 0, none⟩)) := (hH.rest 6 (dst_free (by kernel_rfl))).trans rfl
    have hfl := hG.flagAll hπ (fun c hc => hL' c.1 (by simp only [each_add_plan, List.mem_cons, List.not_mem_nil, or_false] at hc; rcases hc with rfl | rfl | rfl <;> simp))
    obtain ⟨cs, c1, c2, c3⟩ := hG.res
    obtain rfl := c3 (hL' 19 (by omega))
    have hA : Hid (After ⟨b, 0, none⟩ (each_add_bad b f x0 x1 x2 y0 y1 y2 W) W w) := hG.leaves.done hfl.1 hfl.2
    have r0 : w.cell? ⟨W.heap.size + 1 + 1, 0, none⟩ = some (.int .i64 ((add (x0) (y0)).getD 0)) := (c2 0 _ rfl).1
    have r1 : w.cell? ⟨W.heap.size + 1 + 1, 1, none⟩ = some (.int .i64 ((add (x1) (y1)).getD 0)) := (c2 1 _ rfl).1
    have r2 : w.cell? ⟨W.heap.size + 1 + 1, 2, none⟩ = some (.int .i64 ((add (x2) (y2)).getD 0)) := (c2 2 _ rfl).1
    clear hL hLo hL' hH hG c1 c2 c3 hfl hπ
    go_wp2
    refine bodyPost_ret (by simp [results, Tryz.results95, go_sem, hs, r0, r1, r2]; try rfl) hdf ?_
    exact ⟨_, rfl, by show _ = _; simp [each_add_bad, Bool.or_assoc], hA⟩

end Go.Proofs.YtompnibhfdkkjaaGreat
namespace Go.Proofs.YtompnibhfdkkjaaGreat
open Go.RowKit Fx

theorem Leaves.own {p : Addr} {W w : World} (h : Leaves p W w) (v : Value) : Leaves p W (w.setCell p v) := by
  refine ⟨by simpa [World.setCell] using h.size, fun q hq hne => ?_, fun B w' hb h1 h2 => (h.below B w' hb h1 h2).setCell h1 v, ⟨h.kept.1, h.kept.2.1, h.kept.2.2.1, fun i hi hne => (Below.heap_setCell _ _ _ _ hne).trans (h.kept.2.2.2 i hi hne)⟩, fun hp o ho => ⟨(World.cell?_setCell_other _ _ _ _ (fun e => ho (by cases p; exact ((Addr.mk.inj e).2.1).symm))).trans (h.beside hp o ho).1, by rw [show (w.setCell p v).frozen? ⟨p.block, o, none⟩ = w.frozen? ⟨p.block, o, none⟩ by simp [go_sem]]; exact (h.beside hp o ho).2⟩⟩
  exact ⟨(World.cell?_of_block (w := w) (Below.heap_setCell _ _ _ _ hne)).trans (h.other q hq hne).1, (World.frozen?_of_block (w := w) (Below.heap_setCell _ _ _ _ hne)).trans (h.other q hq hne).2⟩

set_option maxHeartbeats 1000000 in
theorem tell3_any (b off o : Nat) (f g : Bool) (x0 x1 x2 : Int) (W : World) (hc : W.cell? ⟨b, off, none⟩ = some (.bool f)) (hf : W.frozen? ⟨b, off, none⟩ = false) (ho : W.cell? ⟨o, 0, none⟩ = some (.bool g)) :
    Calls Tryz.prog 94 #[.pointer (some ⟨b, off, none⟩), .pointer (some ⟨o, 0, none⟩), .agg #[.int .i64 x0, .int .i64 x1, .int .i64 x2]] W fun e W' =>
      e = .returned (.agg #[.int .i64 (cond g 0 x0), .int .i64 (cond g 0 x1), .int .i64 (cond g 0 x2)]) ∧ Hid (After ⟨b, off, none⟩ (f || g) W W') := by
  have m1 : b < W.heap.size := World.block_lt_of_cell? _ _ hc
  have m2 : o < W.heap.size := World.block_lt_of_cell? _ _ ho
  have HL : Hid _ := Leaves.refl ⟨b, off, none⟩ W
  have n1 : b ≠ W.heap.size := by omega
  have n2 : o ≠ W.heap.size := by omega
  have n3 : W.heap.size ≠ b := by omega
  cases g
  · go_enter Tryz.func94, Tryz.ntmps94
    go_wp2
    go_returns
    refine ⟨rfl, ((HL.out.alloc _).alloc _).done ?_ ?_⟩
    · rw [World.cell?_alloc_past _ _ _ (by rw [World.size_alloc]; omega), World.cell?_alloc_past _ _ _ m1, hc]; simp
    · rw [((new_after _ _).frozen (by rw [World.size_alloc]; show b < _; omega)), ((new_after _ _).frozen (show b < _ from m1)), hf]
  · go_enter Tryz.func94, Tryz.ntmps94
    go_wp2
    go_returns
    refine ⟨rfl, ((((HL.out.own _).alloc _).alloc _).alloc _).done ?_ ?_⟩
    · have e : (W.setCell ⟨b, off, none⟩ (.bool true)).cell? ⟨b, off, none⟩ = some (.bool true) := by simp [go_sem, hc]
      have s : (W.setCell ⟨b, off, none⟩ (.bool true)).heap.size = W.heap.size := by simp [World.setCell]
      rw [World.cell?_alloc_past _ _ _ (by rw [World.size_alloc, World.size_alloc, s]; omega), World.cell?_alloc_past _ _ _ (by rw [World.size_alloc, s]; omega), World.cell?_alloc_past _ _ _ (by rw [s]; omega), e]; simp
    · have e : (W.setCell ⟨b, off, none⟩ (.bool true)).frozen? ⟨b, off, none⟩ = false := by simp [go_sem, hf]
      have s : (W.setCell ⟨b, off, none⟩ (.bool true)).heap.size = W.heap.size := by simp [World.setCell]
      rw [((new_after _ _).frozen (by rw [World.size_alloc, World.size_alloc, s]; show b < _; omega)), ((new_after _ _).frozen (by rw [World.size_alloc, s]; show b < _; omega)), ((new_after _ _).frozen (by rw [s]; exact m1)), e]

set_option maxHeartbeats 1000000 in
theorem tell9_any (b off o : Nat) (f g : Bool) (x0 x1 x2 x3 x4 x5 x6 x7 x8 : Int) (W : World) (hc : W.cell? ⟨b, off, none⟩ = some (.bool f)) (hf : W.frozen? ⟨b, off, none⟩ = false) (ho : W.cell? ⟨o, 0, none⟩ = some (.bool g)) :
    Calls Tryz.prog 92 #[.pointer (some ⟨b, off, none⟩), .pointer (some ⟨o, 0, none⟩), .agg #[.int .i64 x0, .int .i64 x1, .int .i64 x2, .int .i64 x3, .int .i64 x4, .int .i64 x5, .int .i64 x6, .int .i64 x7, .int .i64 x8]] W fun e W' =>
      e = .returned (.agg #[.int .i64 (cond g 0 x0), .int .i64 (cond g 0 x1), .int .i64 (cond g 0 x2), .int .i64 (cond g 0 x3), .int .i64 (cond g 0 x4), .int .i64 (cond g 0 x5), .int .i64 (cond g 0 x6), .int .i64 (cond g 0 x7), .int .i64 (cond g 0 x8)]) ∧ Hid (After ⟨b, off, none⟩ (f || g) W W') := by
  have m1 : b < W.heap.size := World.block_lt_of_cell? _ _ hc
  have m2 : o < W.heap.size := World.block_lt_of_cell? _ _ ho
  have HL : Hid _ := Leaves.refl ⟨b, off, none⟩ W
  have n1 : b ≠ W.heap.size := by omega
  have n2 : o ≠ W.heap.size := by omega
  have n3 : W.heap.size ≠ b := by omega
  cases g
  · go_enter Tryz.func92, Tryz.ntmps92
    go_wp2
    go_returns
    refine ⟨rfl, ((HL.out.alloc _).alloc _).done ?_ ?_⟩
    · rw [World.cell?_alloc_past _ _ _ (by rw [World.size_alloc]; omega), World.cell?_alloc_past _ _ _ m1, hc]; simp
    · rw [((new_after _ _).frozen (by rw [World.size_alloc]; show b < _; omega)), ((new_after _ _).frozen (show b < _ from m1)), hf]
  · go_enter Tryz.func92, Tryz.ntmps92
    go_wp2
    go_returns
    refine ⟨rfl, ((((HL.out.own _).alloc _).alloc _).alloc _).done ?_ ?_⟩
    · have e : (W.setCell ⟨b, off, none⟩ (.bool true)).cell? ⟨b, off, none⟩ = some (.bool true) := by simp [go_sem, hc]
      have s : (W.setCell ⟨b, off, none⟩ (.bool true)).heap.size = W.heap.size := by simp [World.setCell]
      rw [World.cell?_alloc_past _ _ _ (by rw [World.size_alloc, World.size_alloc, s]; omega), World.cell?_alloc_past _ _ _ (by rw [World.size_alloc, s]; omega), World.cell?_alloc_past _ _ _ (by rw [s]; omega), e]; simp
    · have e : (W.setCell ⟨b, off, none⟩ (.bool true)).frozen? ⟨b, off, none⟩ = false := by simp [go_sem, hf]
      have s : (W.setCell ⟨b, off, none⟩ (.bool true)).heap.size = W.heap.size := by simp [World.setCell]
      rw [((new_after _ _).frozen (by rw [World.size_alloc, World.size_alloc, s]; show b < _; omega)), ((new_after _ _).frozen (by rw [World.size_alloc, s]; show b < _; omega)), ((new_after _ _).frozen (by rw [s]; exact m1)), e]

end Go.Proofs.YtompnibhfdkkjaaGreat
namespace Go.Proofs.YtompnibhfdkkjaaGreat
open Go.RowKit Fx
set_option linter.unusedVariables false

/-- From a flag f, three numbers that are told together. -/
def Step3 (f : Bool) (a b c : Option Int) (x y z : Int) (g : Bool) : Prop :=
  x = cond (a.isNone || b.isNone || c.isNone) 0 (a.getD 0) ∧ y = cond (a.isNone || b.isNone || c.isNone) 0 (b.getD 0) ∧ z = cond (a.isNone || b.isNone || c.isNone) 0 (c.getD 0) ∧ g = (f || (a.isNone || b.isNone || c.isNone))
theorem step3_of {f g : Bool} {a b c : Option Int} (h : g = (false || (a.isNone || b.isNone || c.isNone))) : Step3 f a b c (cond g 0 (a.getD 0)) (cond g 0 (b.getD 0)) (cond g 0 (c.getD 0)) (f || g) := by
  rw [Bool.false_or] at h
  subst h
  exact ⟨rfl, rfl, rfl, rfl⟩
theorem row3 {w : World} {b : Nat} {x y z : Int} (h0 : w.cell? ⟨b, 0, none⟩ = some (.int .i64 x)) (h1 : w.cell? ⟨b, 1, none⟩ = some (.int .i64 y)) (h2 : w.cell? ⟨b, 2, none⟩ = some (.int .i64 z)) : NRow w (some ⟨b, 0, none⟩) [x, y, z] :=
  Or.inr ⟨b, 0, rfl, fun k hk => by
    match k, hk with
    | 0, _ => exact h0
    | 1, _ => exact h1
    | 2, _ => exact h2⟩

set_option maxHeartbeats 1000000 in
theorem vdot_law (b off : Nat) (f : Bool) (x0 x1 x2 y0 y1 y2 : Int) (W : World) (hc : W.cell? ⟨b, off, none⟩ = some (.bool f)) (hf : W.frozen? ⟨b, off, none⟩ = false) :
    Calls Tryz.prog 126 #[.pointer (some ⟨b, off, none⟩), .agg #[.int .i64 (x0), .int .i64 (x1), .int .i64 (x2)], .agg #[.int .i64 (y0), .int .i64 (y1), .int .i64 (y2)]] W fun e W' => ∃ v g, e = .returned (.int .i64 v) ∧ Hid (Step f (dot [x0, x1, x2] [y0, y1, y2]) v g) ∧ Hid (After ⟨b, off, none⟩ g W W') := by
  have m1 : b < W.heap.size := World.block_lt_of_cell? _ _ hc
  have HC : Hid _ := hc
  have HF : Hid _ := hf
  clear hc hf
  go_enter Tryz.func126, Tryz.ntmps126
  go_wp2_with (fail)
  refine (fdot_any b off f [x0, x1, x2] [y0, y1, y2] _ _ 3 3 _ (by rw [World.cell?_alloc_past _ _ _ (by simp; omega), World.cell?_alloc_past _ _ _ (by simp; omega), World.cell?_alloc_past _ _ _ (by simp; omega), World.cell?_alloc_past _ _ _ m1]; exact HC.out) (by rw [((new_after _ _).frozen (by simp; omega)), ((new_after _ _).frozen (by simp; omega)), ((new_after _ _).frozen (by simp; omega)), ((new_after _ _).frozen m1)]; exact HF.out) (by simp) (by simp) (row3 (by simp [go_sem]) (by simp [go_sem]) (by simp [go_sem])) (row3 (by simp [go_sem]) (by simp [go_sem]) (by simp [go_sem]))).mono ?_
  rintro e W1 ⟨v, g, rfl, S, A⟩
  have HA : Hid (After ⟨b, off, none⟩ g W W1) := (((((Leaves.refl _ _).alloc _).alloc _).alloc _).alloc _).same A.out |>.done A.out.cell A.out.frozen
  clear A
  go_wp2_with (fail)
  go_ret
  exact ⟨v, g, rfl, S, HA⟩

set_option maxHeartbeats 1000000 in
theorem vadd_law (b off : Nat) (f : Bool) (x0 x1 x2 y0 y1 y2 : Int) (W : World) (hc : W.cell? ⟨b, off, none⟩ = some (.bool f)) (hf : W.frozen? ⟨b, off, none⟩ = false) :
    Calls Tryz.prog 54 #[.pointer (some ⟨b, off, none⟩), .agg #[.int .i64 (x0), .int .i64 (x1), .int .i64 (x2)], .agg #[.int .i64 (y0), .int .i64 (y1), .int .i64 (y2)]] W fun e W' => ∃ v0 v1 v2 g, e = .returned (.agg #[.int .i64 (v0), .int .i64 (v1), .int .i64 (v2)]) ∧ Hid (Step3 f (add x0 y0) (add x1 y1) (add x2 y2) v0 v1 v2 g) ∧ Hid (After ⟨b, off, none⟩ g W W') := by
  have m1 : b < W.heap.size := World.block_lt_of_cell? _ _ hc
  have HC : Hid _ := hc
  have HF : Hid _ := hf
  clear hc hf
  go_enter Tryz.func54, Tryz.ntmps54
  go_wp2_with (fail)
  refine (each_add_any (W.heap.size + 1 + 1 + 1) false _ _ _ _ _ _ _ (by simp [go_sem]) (by simp [go_sem])).mono ?_
  rintro e W1 ⟨g, rfl, SG, A⟩
  have hp := A.out.cellOf (q := ⟨b, off, none⟩) (v := .bool f) (by rw [World.cell?_alloc_past _ _ _ (by simp; omega), World.cell?_alloc_past _ _ _ (by simp; omega), World.cell?_alloc_past _ _ _ (by simp; omega), World.cell?_alloc_past _ _ _ m1]; exact HC.out) (by simp; omega)
  have hpf := A.out.frozenOf (q := ⟨b, off, none⟩) (v := .bool f) (by rw [World.cell?_alloc_past _ _ _ (by simp; omega), World.cell?_alloc_past _ _ _ (by simp; omega), World.cell?_alloc_past _ _ _ (by simp; omega), World.cell?_alloc_past _ _ _ m1]; exact HC.out) (by rw [((new_after _ _).frozen (by simp; omega)), ((new_after _ _).frozen (by simp; omega)), ((new_after _ _).frozen (by simp; omega)), ((new_after _ _).frozen m1)]; exact HF.out) (by simp; omega)
  have HL : Hid (Leaves ⟨b, off, none⟩ W W1) := (((((Leaves.refl _ _).alloc _).alloc _).alloc _).alloc _).after A.out (by simp; omega)
  have ho := A.out.cell
  have r0 := A.out.cellOf (q := ⟨W.heap.size + 1 + 1, 0, none⟩) (v := .int .i64 0) (by simp [go_sem]) (by simp)
  have r1 := A.out.cellOf (q := ⟨W.heap.size + 1 + 1, 1, none⟩) (v := .int .i64 0) (by simp [go_sem]) (by simp)
  have r2 := A.out.cellOf (q := ⟨W.heap.size + 1 + 1, 2, none⟩) (v := .int .i64 0) (by simp [go_sem]) (by simp)
  have f0 := A.out.frozenOf (q := ⟨W.heap.size + 1 + 1, 0, none⟩) (v := .int .i64 0) (by simp [go_sem]) (by simp [go_sem]) (by simp)
  have f1 := A.out.frozenOf (q := ⟨W.heap.size + 1 + 1, 1, none⟩) (v := .int .i64 0) (by simp [go_sem]) (by simp [go_sem]) (by simp)
  have f2 := A.out.frozenOf (q := ⟨W.heap.size + 1 + 1, 2, none⟩) (v := .int .i64 0) (by simp [go_sem]) (by simp [go_sem]) (by simp)
  clear A HC HF
  go_wp2_with (fail)
  refine (tell3_any b off (W.heap.size + 1 + 1 + 1) f g _ _ _ W1 hp hpf ho).mono ?_
  rintro e W2 ⟨rfl, A⟩
  have HL2 : Hid (Leaves ⟨b, off, none⟩ W W2) := HL.out.same A.out
  have hp := A.out.cell
  have hpf := A.out.frozen
  have f0 := A.out.frozenOf r0 f0 (by simp; omega)
  have f1 := A.out.frozenOf r1 f1 (by simp; omega)
  have f2 := A.out.frozenOf r2 f2 (by simp; omega)
  have r0 := A.out.cellOf r0 (by simp; omega)
  have r1 := A.out.cellOf r1 (by simp; omega)
  have r2 := A.out.cellOf r2 (by simp; omega)
  have n1 : b ≠ W.heap.size + 1 + 1 := by omega
  have n2 : W.heap.size + 1 + 1 ≠ b := by omega
  clear A HL
  go_wp2_with (fail)
  refine bodyPost_ret (by simp [results, Tryz.results54, go_sem, r0, r1, r2]; try rfl) rfl ?_
  refine ⟨_, _, _, _, rfl, step3_of SG.out, (((HL2.out.set (by simp; omega) _).set (by simp; omega) _).set (by simp; omega) _).done ?_ ?_⟩
  · simp [go_sem, hp]
  · simp [go_sem, hpf]

end Go.Proofs.YtompnibhfdkkjaaGreat
namespace Go.Proofs.YtompnibhfdkkjaaGreat
open Go.RowKit Fx
set_option linter.unusedVariables false

theorem turn_step {f : Bool} {a b c : Option Int} {bd : Bool} (hb : bd = (a.isNone || (b.isNone || c.isNone))) : Step3 f a b c (cond bd 0 (a.getD 0)) (cond bd 0 (b.getD 0)) (cond bd 0 (c.getD 0)) (f || bd) := by
  rw [← Bool.or_assoc] at hb
  rw [hb]
  exact ⟨rfl, rfl, rfl, rfl⟩

def turn_bad (b off : Nat) (f : Bool) (pm pa pr po : Nat) (m0 m1 m2 m3 m4 m5 m6 m7 m8 x0 x1 x2 : Int) (W U : World) : Bool := false || ([(4, (dot [m0, m1, m2] [x0, x1, x2]).isNone), (8, (dot [m3, m4, m5] [x0, x1, x2]).isNone), (12, (dot [m6, m7, m8] [x0, x1, x2]).isNone)] : List (Nat × Bool)).any (·.2)

def turn_sh (b off : Nat) (f : Bool) (pm pa pr po : Nat) (m0 m1 m2 m3 m4 m5 m6 m7 m8 x0 x1 x2 : Int) (W U : World) : Nat → Shape
  | 0 => .is (.pointer (some ⟨b, off, none⟩))
  | 1 => .is (.pointer (some ⟨pm, 0, none⟩))
  | 2 => .is (.agg #[.int .i64 (m0), .int .i64 (m1), .int .i64 (m2)])
  | 3 => .is (.agg #[.int .i64 (x0), .int .i64 (x1), .int .i64 (x2)])
  | 4 => .is (.int .i64 ((dot [m0, m1, m2] [x0, x1, x2]).getD 0))
  | 5 => .is (.pointer (some ⟨pm, 3, none⟩))
  | 6 => .is (.agg #[.int .i64 (m3), .int .i64 (m4), .int .i64 (m5)])
  | 7 => .is (.agg #[.int .i64 (x0), .int .i64 (x1), .int .i64 (x2)])
  | 8 => .is (.int .i64 ((dot [m3, m4, m5] [x0, x1, x2]).getD 0))
  | 9 => .is (.pointer (some ⟨pm, 6, none⟩))
  | 10 => .is (.agg #[.int .i64 (m6), .int .i64 (m7), .int .i64 (m8)])
  | 11 => .is (.agg #[.int .i64 (x0), .int .i64 (x1), .int .i64 (x2)])
  | 12 => .is (.int .i64 ((dot [m6, m7, m8] [x0, x1, x2]).getD 0))
  | 13 => .is (.agg #[.int .i64 ((dot [m0, m1, m2] [x0, x1, x2]).getD 0), .int .i64 ((dot [m3, m4, m5] [x0, x1, x2]).getD 0), .int .i64 ((dot [m6, m7, m8] [x0, x1, x2]).getD 0)])
  | 14 => .is (.agg #[.int .i64 (cond (turn_bad b off f pm pa pr po m0 m1 m2 m3 m4 m5 m6 m7 m8 x0 x1 x2 W U) 0 ((dot [m0, m1, m2] [x0, x1, x2]).getD 0)), .int .i64 (cond (turn_bad b off f pm pa pr po m0 m1 m2 m3 m4 m5 m6 m7 m8 x0 x1 x2 W U) 0 ((dot [m3, m4, m5] [x0, x1, x2]).getD 0)), .int .i64 (cond (turn_bad b off f pm pa pr po m0 m1 m2 m3 m4 m5 m6 m7 m8 x0 x1 x2 W U) 0 ((dot [m6, m7, m8] [x0, x1, x2]).getD 0))])
  | 15 => .ptr
  | _ => .ptr

def turn_plan (b off : Nat) (f : Bool) (pm pa pr po : Nat) (m0 m1 m2 m3 m4 m5 m6 m7 m8 x0 x1 x2 : Int) (W U : World) : Plan where
  W := W
  N := U.heap.size
  p := ⟨b, off, none⟩
  fl := ⟨po, 0, none⟩
  g0 := false
  bad := turn_bad b off f pm pa pr po m0 m1 m2 m3 m4 m5 m6 m7 m8 x0 x1 x2 W U
  f := f
  calls := [(4, (dot [m0, m1, m2] [x0, x1, x2]).isNone), (8, (dot [m3, m4, m5] [x0, x1, x2]).isNone), (12, (dot [m6, m7, m8] [x0, x1, x2]).isNone)]
  tl := 14
  st := 15
  r := pr
  res := [.int .i64 (cond (turn_bad b off f pm pa pr po m0 m1 m2 m3 m4 m5 m6 m7 m8 x0 x1 x2 W U) 0 ((dot [m0, m1, m2] [x0, x1, x2]).getD 0)), .int .i64 (cond (turn_bad b off f pm pa pr po m0 m1 m2 m3 m4 m5 m6 m7 m8 x0 x1 x2 W U) 0 ((dot [m3, m4, m5] [x0, x1, x2]).getD 0)), .int .i64 (cond (turn_bad b off f pm pa pr po m0 m1 m2 m3 m4 m5 m6 m7 m8 x0 x1 x2 W U) 0 ((dot [m6, m7, m8] [x0, x1, x2]).getD 0))]
  fixed := [(⟨pm, 0, none⟩, .int .i64 (m0)),
    (⟨pm, 1, none⟩, .int .i64 (m1)),
    (⟨pm, 2, none⟩, .int .i64 (m2)),
    (⟨pm, 3, none⟩, .int .i64 (m3)),
    (⟨pm, 4, none⟩, .int .i64 (m4)),
    (⟨pm, 5, none⟩, .int .i64 (m5)),
    (⟨pm, 6, none⟩, .int .i64 (m6)),
    (⟨pm, 7, none⟩, .int .i64 (m7)),
    (⟨pm, 8, none⟩, .int .i64 (m8)),
    (⟨pa, 0, none⟩, .int .i64 (x0)),
    (⟨pa, 1, none⟩, .int .i64 (x1)),
    (⟨pa, 2, none⟩, .int .i64 (x2))]
  made := []

theorem turn_cn (b off : Nat) (f : Bool) (pm pa pr po : Nat) (m0 m1 m2 m3 m4 m5 m6 m7 m8 x0 x1 x2 : Int) (W U : World) : ((turn_plan b off f pm pa pr po m0 m1 m2 m3 m4 m5 m6 m7 m8 x0 x1 x2 W U).calls.map (·.1)).Nodup := of_decide_eq_true rfl
theorem turn_bads (b off : Nat) (f : Bool) (pm pa pr po : Nat) (m0 m1 m2 m3 m4 m5 m6 m7 m8 x0 x1 x2 : Int) (W U : World) : ((turn_plan b off f pm pa pr po m0 m1 m2 m3 m4 m5 m6 m7 m8 x0 x1 x2 W U).bad = true → (turn_plan b off f pm pa pr po m0 m1 m2 m3 m4 m5 m6 m7 m8 x0 x1 x2 W U).g0 = true ∨ ∃ c ∈ (turn_plan b off f pm pa pr po m0 m1 m2 m3 m4 m5 m6 m7 m8 x0 x1 x2 W U).calls, c.2 = true) ∧ ∀ c ∈ (turn_plan b off f pm pa pr po m0 m1 m2 m3 m4 m5 m6 m7 m8 x0 x1 x2 W U).calls, c.2 = true → (turn_plan b off f pm pa pr po m0 m1 m2 m3 m4 m5 m6 m7 m8 x0 x1 x2 W U).bad = true :=
  bad_any_of _ rfl

set_option maxHeartbeats 4000000 in
theorem vturn_law (b off : Nat) (f : Bool) (m0 m1 m2 m3 m4 m5 m6 m7 m8 x0 x1 x2 : Int) (W : World) (hc : W.cell? ⟨b, off, none⟩ = some (.bool f)) (hf : W.frozen? ⟨b, off, none⟩ = false) :
    Calls Tryz.prog 96 #[.pointer (some ⟨b, off, none⟩), .agg #[.int .i64 (m0), .int .i64 (m1), .int .i64 (m2), .int .i64 (m3), .int .i64 (m4), .int .i64 (m5), .int .i64 (m6), .int .i64 (m7), .int .i64 (m8)], .agg #[.int .i64 (x0), .int .i64 (x1), .int .i64 (x2)]] W fun e W' => ∃ v0 v1 v2 g, e = .returned (.agg #[.int .i64 (v0), .int .i64 (v1), .int .i64 (v2)]) ∧ Hid (Step3 f (dot [m0, m1, m2] [x0, x1, x2]) (dot [m3, m4, m5] [x0, x1, x2]) (dot [m6, m7, m8] [x0, x1, x2]) v0 v1 v2 g) ∧ Hid (After ⟨b, off, none⟩ g W W') := by
  have hbW : b < W.heap.size := World.block_lt_of_cell? _ _ hc
  go_enter Tryz.func96, Tryz.ntmps96
  go_wp2_with (fail)
  obtain ⟨U, hU⟩ : ∃ U, U = ((((W.alloc (.cells #[.int .i64 (m0), .int .i64 (m1), .int .i64 (m2), .int .i64 (m3), .int .i64 (m4), .int .i64 (m5), .int .i64 (m6), .int .i64 (m7), .int .i64 (m8)] 64)).alloc (.cells #[.int .i64 (x0), .int .i64 (x1), .int .i64 (x2)] 26)).alloc (.cells #[.int .i64 0, .int .i64 0, .int .i64 0] 26)).alloc (.cells #[.bool false] 62)) := ⟨_, rfl⟩
  have hUs : U.heap.size = W.heap.size + 4 := by rw [hU]; simp
  have HL : Hid (Leaves ⟨b, off, none⟩ W U) := by show Leaves _ _ _; rw [hU]; exact (((((Leaves.refl _ _).alloc _).alloc _).alloc _).alloc _)
  have hp : U.cell? ⟨b, off, none⟩ = some (.bool f) := (by rw [hU, World.cell?_alloc_past _ _ _ (by simp; omega), World.cell?_alloc_past _ _ _ (by simp; omega), World.cell?_alloc_past _ _ _ (by simp; omega), World.cell?_alloc_past _ _ _ hbW]; exact hc)
  have hpf : U.frozen? ⟨b, off, none⟩ = false := by rw [hU, ((new_after _ _).frozen (by simp; omega)), ((new_after _ _).frozen (by simp; omega)), ((new_after _ _).frozen (by simp; omega)), ((new_after _ _).frozen hbW)]; exact hf
  have ho : U.cell? ⟨W.heap.size + 1 + 1 + 1, 0, none⟩ = some (.bool false) := by rw [hU]; simp [go_sem]
  have hof : U.frozen? ⟨W.heap.size + 1 + 1 + 1, 0, none⟩ = false := by rw [hU]; simp [go_sem]
  have k0_0 : U.cell? ⟨W.heap.size, 0, none⟩ = some (.int .i64 (m0)) := by rw [hU]; simp [go_sem]
  have k0_1 : U.cell? ⟨W.heap.size, 1, none⟩ = some (.int .i64 (m1)) := by rw [hU]; simp [go_sem]
  have k0_2 : U.cell? ⟨W.heap.size, 2, none⟩ = some (.int .i64 (m2)) := by rw [hU]; simp [go_sem]
  have k0_3 : U.cell? ⟨W.heap.size, 3, none⟩ = some (.int .i64 (m3)) := by rw [hU]; simp [go_sem]
  have k0_4 : U.cell? ⟨W.heap.size, 4, none⟩ = some (.int .i64 (m4)) := by rw [hU]; simp [go_sem]
  have k0_5 : U.cell? ⟨W.heap.size, 5, none⟩ = some (.int .i64 (m5)) := by rw [hU]; simp [go_sem]
  have k0_6 : U.cell? ⟨W.heap.size, 6, none⟩ = some (.int .i64 (m6)) := by rw [hU]; simp [go_sem]
  have k0_7 : U.cell? ⟨W.heap.size, 7, none⟩ = some (.int .i64 (m7)) := by rw [hU]; simp [go_sem]
  have k0_8 : U.cell? ⟨W.heap.size, 8, none⟩ = some (.int .i64 (m8)) := by rw [hU]; simp [go_sem]
  have k1_0 : U.cell? ⟨W.heap.size + 1, 0, none⟩ = some (.int .i64 (x0)) := by rw [hU]; simp [go_sem]
  have k1_1 : U.cell? ⟨W.heap.size + 1, 1, none⟩ = some (.int .i64 (x1)) := by rw [hU]; simp [go_sem]
  have k1_2 : U.cell? ⟨W.heap.size + 1, 2, none⟩ = some (.int .i64 (x2)) := by rw [hU]; simp [go_sem]
  have rr0 : U.cell? ⟨W.heap.size + 1 + 1, 0, none⟩ = some (.int .i64 0) := by rw [hU]; simp [go_sem]
  have rf0 : U.frozen? ⟨W.heap.size + 1 + 1, 0, none⟩ = false := by rw [hU]; simp [go_sem]
  have rr1 : U.cell? ⟨W.heap.size + 1 + 1, 1, none⟩ = some (.int .i64 0) := by rw [hU]; simp [go_sem]
  have rf1 : U.frozen? ⟨W.heap.size + 1 + 1, 1, none⟩ = false := by rw [hU]; simp [go_sem]
  have rr2 : U.cell? ⟨W.heap.size + 1 + 1, 2, none⟩ = some (.int .i64 0) := by rw [hU]; simp [go_sem]
  have rf2 : U.frozen? ⟨W.heap.size + 1 + 1, 2, none⟩ = false := by rw [hU]; simp [go_sem]
  rw [← hU]
  clear hU hc hf
  obtain ⟨pm, hpm⟩ : ∃ p, p = W.heap.size := ⟨_, rfl⟩
  obtain ⟨pa, hpa⟩ : ∃ p, p = W.heap.size + 1 := ⟨_, rfl⟩
  obtain ⟨pr, hpr⟩ : ∃ p, p = W.heap.size + 1 + 1 := ⟨_, rfl⟩
  obtain ⟨po, hpo⟩ : ∃ p, p = W.heap.size + 1 + 1 + 1 := ⟨_, rfl⟩
  rw [← hpo] at ho hof
  rw [← hpo]
  rw [← hpr] at rr0 rf0 rr1 rf1 rr2 rf2
  rw [← hpr]
  rw [← hpa] at k1_0 k1_1 k1_2
  rw [← hpa]
  rw [← hpm] at k0_0 k0_1 k0_2 k0_3 k0_4 k0_5 k0_6 k0_7 k0_8
  rw [← hpm]
  have q0 : W.heap.size ≤ pm := by omega
  have q1 : pm < pa := by omega
  have q2 : pa < pr := by omega
  have q3 : pr < po := by omega
  have q9 : po < U.heap.size := by omega
  clear hpm hpa hpr hpo hUs
  have hπ : (turn_plan b off f pm pa pr po m0 m1 m2 m3 m4 m5 m6 m7 m8 x0 x1 x2 W U).Good := by
    refine good_of ?_ ?_ ?_ ?_ ?_ ?_ ?_ (turn_bads b off f pm pa pr po m0 m1 m2 m3 m4 m5 m6 m7 m8 x0 x1 x2 W U).1 (turn_bads b off f pm pa pr po m0 m1 m2 m3 m4 m5 m6 m7 m8 x0 x1 x2 W U).2
    · show W.heap.size ≤ pr; omega
    · show pr < U.heap.size; omega
    · exact Or.inr (by show W.heap.size ≤ po; omega)
    · show po < U.heap.size; omega
    · show po ≠ pr; omega
    · show b < W.heap.size; omega
    · intro c hc
      simp only [turn_plan, List.mem_cons, List.not_mem_nil, or_false] at hc
      rcases hc with rfl | rfl | rfl | rfl | rfl | rfl | rfl | rfl | rfl | rfl | rfl | rfl <;> (show _ < U.heap.size ∧ _ ≠ po ∧ _ ≠ b ∧ _ ≠ pr) <;> (dsimp only) <;> omega
  refine region_by (shapeVal (turn_sh b off f pm pa pr po m0 m1 m2 m3 m4 m5 m6 m7 m8 x0 x1 x2 W U)) (Glob (turn_plan b off f pm pa pr po m0 m1 m2 m3 m4 m5 m6 m7 m8 x0 x1 x2 W U)) (by kernel_rfl) (by kernel_rfl) (by kernel_rfl) (by kernel_rfl) (fun _ => 0) ?_ ?_ ?_
  · refine ⟨?_, ?_, ?_, ?_, ?_, ?_, (fun _ _ h => by cases h), (fun _ _ _ _ h => by cases h)⟩
    · exact HL.out.drew
    · exact Nat.le_refl _
    · exact ⟨false, ho, hof, fun h => by show turn_bad b off f pm pa pr po m0 m1 m2 m3 m4 m5 m6 m7 m8 x0 x1 x2 W U = true; simp [turn_bad, h], fun h => h, fun _ _ h => by cases h⟩
    · refine Or.inr ⟨?_, hpf⟩
      show U.cell? ⟨b, off, none⟩ = some (.bool (f || (false && turn_bad b off f pm pa pr po m0 m1 m2 m3 m4 m5 m6 m7 m8 x0 x1 x2 W U)))
      rw [Bool.false_and, Bool.or_false]; exact hp
    · refine ⟨[.int .i64 0, .int .i64 0, .int .i64 0], rfl, ?_, fun h => by cases h⟩
      intro k v hk
      match k, hk with
      | 0, hk => simp at hk; subst hk; exact ⟨rr0, rf0⟩
      | 1, hk => simp at hk; subst hk; exact ⟨rr1, rf1⟩
      | 2, hk => simp at hk; subst hk; exact ⟨rr2, rf2⟩
    · intro c hc
      simp only [turn_plan, List.mem_cons, List.not_mem_nil, or_false] at hc
      rcases hc with rfl | rfl | rfl | rfl | rfl | rfl | rfl | rfl | rfl | rfl | rfl | rfl <;> assumption
  · generalize hD : dstOf _ = D
    generalize hA : waitsFor _ = A
    generalize hZ : Act.mk _ _ = Z
    have d0 : D 0 = some 8 := by rw [← hD]; rfl
    have d1 : D 1 = some 9 := by rw [← hD]; rfl
    have d2 : D 2 = some 10 := by rw [← hD]; rfl
    have d3 : D 3 = some 11 := by rw [← hD]; rfl
    have d4 : D 4 = some 12 := by rw [← hD]; rfl
    have d5 : D 5 = some 13 := by rw [← hD]; rfl
    have d6 : D 6 = some 14 := by rw [← hD]; rfl
    have d7 : D 7 = some 15 := by rw [← hD]; rfl
    have d8 : D 8 = some 16 := by rw [← hD]; rfl
    have d9 : D 9 = some 17 := by rw [← hD]; rfl
    have d10 : D 10 = some 18 := by rw [← hD]; rfl
    have d11 : D 11 = some 19 := by rw [← hD]; rfl
    have d12 : D 12 = some 20 := by rw [← hD]; rfl
    have d13 : D 13 = some 21 := by rw [← hD]; rfl
    have d14 : D 14 = some 22 := by rw [← hD]; rfl
    have R0 : ∀ (γ : Nat → Nat) (L : Nat → Bool) (a : Act) (w : World), Held D A (shapeVal (turn_sh b off f pm pa pr po m0 m1 m2 m3 m4 m5 m6 m7 m8 x0 x1 x2 W U)) (Glob (turn_plan b off f pm pa pr po m0 m1 m2 m3 m4 m5 m6 m7 m8 x0 x1 x2 W U)) Z γ L a w → a.tmps[0]? = some (.pointer (some ⟨b, off, none⟩)) := fun γ L a w hH => (hH.rest 0 (by rw [← hD]; exact dst_free (by kernel_rfl))).trans (by rw [← hZ]; rfl)
    have R4 : ∀ (γ : Nat → Nat) (L : Nat → Bool) (a : Act) (w : World), Held D A (shapeVal (turn_sh b off f pm pa pr po m0 m1 m2 m3 m4 m5 m6 m7 m8 x0 x1 x2 W U)) (Glob (turn_plan b off f pm pa pr po m0 m1 m2 m3 m4 m5 m6 m7 m8 x0 x1 x2 W U)) Z γ L a w → a.tmps[4]? = some (.pointer (some ⟨pm, 0, none⟩)) := fun γ L a w hH => (hH.rest 4 (by rw [← hD]; exact dst_free (by kernel_rfl))).trans (by rw [← hZ]; rfl)
    have R5 : ∀ (γ : Nat → Nat) (L : Nat → Bool) (a : Act) (w : World), Held D A (shapeVal (turn_sh b off f pm pa pr po m0 m1 m2 m3 m4 m5 m6 m7 m8 x0 x1 x2 W U)) (Glob (turn_plan b off f pm pa pr po m0 m1 m2 m3 m4 m5 m6 m7 m8 x0 x1 x2 W U)) Z γ L a w → a.tmps[5]? = some (.pointer (some ⟨pa, 0, none⟩)) := fun γ L a w hH => (hH.rest 5 (by rw [← hD]; exact dst_free (by kernel_rfl))).trans (by rw [← hZ]; rfl)
    have R6 : ∀ (γ : Nat → Nat) (L : Nat → Bool) (a : Act) (w : World), Held D A (shapeVal (turn_sh b off f pm pa pr po m0 m1 m2 m3 m4 m5 m6 m7 m8 x0 x1 x2 W U)) (Glob (turn_plan b off f pm pa pr po m0 m1 m2 m3 m4 m5 m6 m7 m8 x0 x1 x2 W U)) Z γ L a w → a.tmps[6]? = some (.pointer (some ⟨pr, 0, none⟩)) := fun γ L a w hH => (hH.rest 6 (by rw [← hD]; exact dst_free (by kernel_rfl))).trans (by rw [← hZ]; rfl)
    have R7 : ∀ (γ : Nat → Nat) (L : Nat → Bool) (a : Act) (w : World), Held D A (shapeVal (turn_sh b off f pm pa pr po m0 m1 m2 m3 m4 m5 m6 m7 m8 x0 x1 x2 W U)) (Glob (turn_plan b off f pm pa pr po m0 m1 m2 m3 m4 m5 m6 m7 m8 x0 x1 x2 W U)) Z γ L a w → a.tmps[7]? = some (.pointer (some ⟨po, 0, none⟩)) := fun γ L a w hH => (hH.rest 7 (by rw [← hD]; exact dst_free (by kernel_rfl))).trans (by rw [← hZ]; rfl)
    have A_13_4 : A 13 4 := by rw [← hA]; exact ⟨_, rfl, ⟨4, .data⟩, by simp, rfl, rfl⟩
    have A_13_8 : A 13 8 := by rw [← hA]; exact ⟨_, rfl, ⟨8, .data⟩, by simp, rfl, rfl⟩
    have A_13_12 : A 13 12 := by rw [← hA]; exact ⟨_, rfl, ⟨12, .data⟩, by simp, rfl, rfl⟩
    clear hD hA hZ
    refine AllDo.cons 0 rfl (does_pure _ rfl rfl (fun γ L a w hH hA => by have e1 := R0 γ L a w hH; simp [execOp, go_sem, e1])) ?_
    refine AllDo.cons 1 rfl (does_pure _ rfl rfl (fun γ L a w hH hA => by have e1 := R4 γ L a w hH; simp [execOp, go_sem, e1])) ?_
    refine AllDo.cons 2 rfl (does_pure _ rfl rfl (fun γ L a w hH hA => by have e1 := hH.at d1 (rfl : turn_sh b off f pm pa pr po m0 m1 m2 m3 m4 m5 m6 m7 m8 x0 x1 x2 W U 1 = _) (hA ⟨1, .data⟩ (by simp) rfl); have e2 := hH.glob.fix (⟨pm, 0, none⟩, .int .i64 (m0)) (by simp [turn_plan]); have e3 := hH.glob.fix (⟨pm, 1, none⟩, .int .i64 (m1)) (by simp [turn_plan]); have e4 := hH.glob.fix (⟨pm, 2, none⟩, .int .i64 (m2)) (by simp [turn_plan]); simp [execOp, go_sem, e1, e2, e3, e4])) ?_
    refine AllDo.cons 3 rfl (does_pure _ rfl rfl (fun γ L a w hH hA => by have e1 := R5 γ L a w hH; have e2 := hH.glob.fix (⟨pa, 0, none⟩, .int .i64 (x0)) (by simp [turn_plan]); have e3 := hH.glob.fix (⟨pa, 1, none⟩, .int .i64 (x1)) (by simp [turn_plan]); have e4 := hH.glob.fix (⟨pa, 2, none⟩, .int .i64 (x2)) (by simp [turn_plan]); simp [execOp, go_sem, e1, e2, e3, e4])) ?_
    refine AllDo.cons 4 rfl (does_call hπ _ ((dot [m0, m1, m2] [x0, x1, x2]).isNone) rfl (by simp [turn_plan]) (calls_only (turn_cn b off f pm pa pr po m0 m1 m2 m3 m4 m5 m6 m7 m8 x0 x1 x2 W U) (by simp [turn_plan])) rfl (fun γ L a w hH hA g hg hz => by have e1 := R7 γ L a w hH; have e2 := hH.at d2 (rfl : turn_sh b off f pm pa pr po m0 m1 m2 m3 m4 m5 m6 m7 m8 x0 x1 x2 W U 2 = _) (hA ⟨2, .data⟩ (by simp) rfl); have e3 := hH.at d3 (rfl : turn_sh b off f pm pa pr po m0 m1 m2 m3 m4 m5 m6 m7 m8 x0 x1 x2 W U 3 = _) (hA ⟨3, .data⟩ (by simp) rfl); exact ⟨126, #[.pointer (some ⟨po, 0, none⟩), .agg #[.int .i64 (m0), .int .i64 (m1), .int .i64 (m2)], .agg #[.int .i64 (x0), .int .i64 (x1), .int .i64 (x2)]], by simp [go_sem, e1, e2, e3], (vdot_law po 0 g (m0) (m1) (m2) (x0) (x1) (x2) w hg hz).mono (by rintro e W1 ⟨v, g1, rfl, S, Z⟩; exact ⟨by rw [S.out.1], g1, S.out.2, Z.out⟩)⟩)) ?_
    refine AllDo.cons 5 rfl (does_pure _ rfl rfl (fun γ L a w hH hA => by have e1 := R4 γ L a w hH; simp [execOp, go_sem, e1])) ?_
    refine AllDo.cons 6 rfl (does_pure _ rfl rfl (fun γ L a w hH hA => by have e1 := hH.at d5 (rfl : turn_sh b off f pm pa pr po m0 m1 m2 m3 m4 m5 m6 m7 m8 x0 x1 x2 W U 5 = _) (hA ⟨5, .data⟩ (by simp) rfl); have e2 := hH.glob.fix (⟨pm, 3, none⟩, .int .i64 (m3)) (by simp [turn_plan]); have e3 := hH.glob.fix (⟨pm, 4, none⟩, .int .i64 (m4)) (by simp [turn_plan]); have e4 := hH.glob.fix (⟨pm, 5, none⟩, .int .i64 (m5)) (by simp [turn_plan]); simp [execOp, go_sem, e1, e2, e3, e4])) ?_
    refine AllDo.cons 7 rfl (does_pure _ rfl rfl (fun γ L a w hH hA => by have e1 := R5 γ L a w hH; have e2 := hH.glob.fix (⟨pa, 0, none⟩, .int .i64 (x0)) (by simp [turn_plan]); have e3 := hH.glob.fix (⟨pa, 1, none⟩, .int .i64 (x1)) (by simp [turn_plan]); have e4 := hH.glob.fix (⟨pa, 2, none⟩, .int .i64 (x2)) (by simp [turn_plan]); simp [execOp, go_sem, e1, e2, e3, e4])) ?_
    refine AllDo.cons 8 rfl (does_call hπ _ ((dot [m3, m4, m5] [x0, x1, x2]).isNone) rfl (by simp [turn_plan]) (calls_only (turn_cn b off f pm pa pr po m0 m1 m2 m3 m4 m5 m6 m7 m8 x0 x1 x2 W U) (by simp [turn_plan])) rfl (fun γ L a w hH hA g hg hz => by have e1 := R7 γ L a w hH; have e2 := hH.at d6 (rfl : turn_sh b off f pm pa pr po m0 m1 m2 m3 m4 m5 m6 m7 m8 x0 x1 x2 W U 6 = _) (hA ⟨6, .data⟩ (by simp) rfl); have e3 := hH.at d7 (rfl : turn_sh b off f pm pa pr po m0 m1 m2 m3 m4 m5 m6 m7 m8 x0 x1 x2 W U 7 = _) (hA ⟨7, .data⟩ (by simp) rfl); exact ⟨126, #[.pointer (some ⟨po, 0, none⟩), .agg #[.int .i64 (m3), .int .i64 (m4), .int .i64 (m5)], .agg #[.int .i64 (x0), .int .i64 (x1), .int .i64 (x2)]], by simp [go_sem, e1, e2, e3], (vdot_law po 0 g (m3) (m4) (m5) (x0) (x1) (x2) w hg hz).mono (by rintro e W1 ⟨v, g1, rfl, S, Z⟩; exact ⟨by rw [S.out.1], g1, S.out.2, Z.out⟩)⟩)) ?_
    refine AllDo.cons 9 rfl (does_pure _ rfl rfl (fun γ L a w hH hA => by have e1 := R4 γ L a w hH; simp [execOp, go_sem, e1])) ?_
    refine AllDo.cons 10 rfl (does_pure _ rfl rfl (fun γ L a w hH hA => by have e1 := hH.at d9 (rfl : turn_sh b off f pm pa pr po m0 m1 m2 m3 m4 m5 m6 m7 m8 x0 x1 x2 W U 9 = _) (hA ⟨9, .data⟩ (by simp) rfl); have e2 := hH.glob.fix (⟨pm, 6, none⟩, .int .i64 (m6)) (by simp [turn_plan]); have e3 := hH.glob.fix (⟨pm, 7, none⟩, .int .i64 (m7)) (by simp [turn_plan]); have e4 := hH.glob.fix (⟨pm, 8, none⟩, .int .i64 (m8)) (by simp [turn_plan]); simp [execOp, go_sem, e1, e2, e3, e4])) ?_
    refine AllDo.cons 11 rfl (does_pure _ rfl rfl (fun γ L a w hH hA => by have e1 := R5 γ L a w hH; have e2 := hH.glob.fix (⟨pa, 0, none⟩, .int .i64 (x0)) (by simp [turn_plan]); have e3 := hH.glob.fix (⟨pa, 1, none⟩, .int .i64 (x1)) (by simp [turn_plan]); have e4 := hH.glob.fix (⟨pa, 2, none⟩, .int .i64 (x2)) (by simp [turn_plan]); simp [execOp, go_sem, e1, e2, e3, e4])) ?_
    refine AllDo.cons 12 rfl (does_call hπ _ ((dot [m6, m7, m8] [x0, x1, x2]).isNone) rfl (by simp [turn_plan]) (calls_only (turn_cn b off f pm pa pr po m0 m1 m2 m3 m4 m5 m6 m7 m8 x0 x1 x2 W U) (by simp [turn_plan])) rfl (fun γ L a w hH hA g hg hz => by have e1 := R7 γ L a w hH; have e2 := hH.at d10 (rfl : turn_sh b off f pm pa pr po m0 m1 m2 m3 m4 m5 m6 m7 m8 x0 x1 x2 W U 10 = _) (hA ⟨10, .data⟩ (by simp) rfl); have e3 := hH.at d11 (rfl : turn_sh b off f pm pa pr po m0 m1 m2 m3 m4 m5 m6 m7 m8 x0 x1 x2 W U 11 = _) (hA ⟨11, .data⟩ (by simp) rfl); exact ⟨126, #[.pointer (some ⟨po, 0, none⟩), .agg #[.int .i64 (m6), .int .i64 (m7), .int .i64 (m8)], .agg #[.int .i64 (x0), .int .i64 (x1), .int .i64 (x2)]], by simp [go_sem, e1, e2, e3], (vdot_law po 0 g (m6) (m7) (m8) (x0) (x1) (x2) w hg hz).mono (by rintro e W1 ⟨v, g1, rfl, S, Z⟩; exact ⟨by rw [S.out.1], g1, S.out.2, Z.out⟩)⟩)) ?_
    refine AllDo.cons 13 rfl (does_pure _ rfl rfl (fun γ L a w hH hA => by have e1 := hH.at d4 (rfl : turn_sh b off f pm pa pr po m0 m1 m2 m3 m4 m5 m6 m7 m8 x0 x1 x2 W U 4 = _) (hA ⟨4, .data⟩ (by simp) rfl); have e2 := hH.at d8 (rfl : turn_sh b off f pm pa pr po m0 m1 m2 m3 m4 m5 m6 m7 m8 x0 x1 x2 W U 8 = _) (hA ⟨8, .data⟩ (by simp) rfl); have e3 := hH.at d12 (rfl : turn_sh b off f pm pa pr po m0 m1 m2 m3 m4 m5 m6 m7 m8 x0 x1 x2 W U 12 = _) (hA ⟨12, .data⟩ (by simp) rfl); simp [execOp, go_sem, e1, e2, e3])) ?_
    refine AllDo.cons 14 rfl (does_tell hπ _ rfl (fun e => by have e2 : po = b := congrArg Addr.block e; omega) (by simp [turn_plan]) (by simp [turn_plan]) (by simp [turn_plan]) rfl (fun L hcl haft c hc => by have L13 : L 13 = true := haft ⟨13, .data⟩ (by simp) rfl; have L4 : L 4 = true := hcl 13 4 A_13_4 L13; have L8 : L 8 = true := hcl 13 8 A_13_8 L13; have L12 : L 12 = true := hcl 13 12 A_13_12 L13; simp only [turn_plan, List.mem_cons, List.not_mem_nil, or_false] at hc; rcases hc with rfl | rfl | rfl; all_goals assumption) (fun γ L a w hH hA hb hp hpf => by have e1 := hH.at d0 (rfl : turn_sh b off f pm pa pr po m0 m1 m2 m3 m4 m5 m6 m7 m8 x0 x1 x2 W U 0 = _) (hA ⟨0, .data⟩ (by simp) rfl); have e2 := R7 γ L a w hH; have e3 := hH.at d13 (rfl : turn_sh b off f pm pa pr po m0 m1 m2 m3 m4 m5 m6 m7 m8 x0 x1 x2 W U 13 = _) (hA ⟨13, .data⟩ (by simp) rfl); exact ⟨94, #[.pointer (some ⟨b, off, none⟩), .pointer (some ⟨po, 0, none⟩), .agg #[.int .i64 ((dot [m0, m1, m2] [x0, x1, x2]).getD 0), .int .i64 ((dot [m3, m4, m5] [x0, x1, x2]).getD 0), .int .i64 ((dot [m6, m7, m8] [x0, x1, x2]).getD 0)]], by simp [go_sem, e1, e2, e3], (tell3_any b off po f (turn_bad b off f pm pa pr po m0 m1 m2 m3 m4 m5 m6 m7 m8 x0 x1 x2 W U) ((dot [m0, m1, m2] [x0, x1, x2]).getD 0) ((dot [m3, m4, m5] [x0, x1, x2]).getD 0) ((dot [m6, m7, m8] [x0, x1, x2]).getD 0) w hp hpf hb).mono (by rintro e W1 ⟨rfl, Z⟩; exact ⟨rfl, Z.out⟩)⟩)) ?_
    refine AllDo.cons 15 rfl (does_store hπ (by simp [turn_plan]) rfl rfl (by simp [turn_plan]) (by simp [turn_plan]) (by simp [turn_plan]) (fun γ L a w hH hA cs hl hh => by have e1 := R6 γ L a w hH; have e2 := hH.at d14 (rfl : turn_sh b off f pm pa pr po m0 m1 m2 m3 m4 m5 m6 m7 m8 x0 x1 x2 W U 14 = _) (hA ⟨14, .data⟩ (by simp) rfl); obtain ⟨u0, u1, u2, rfl⟩ := list3 hl; have zz0 : w.cell? ⟨pr, 0, none⟩ = some u0 ∧ w.frozen? ⟨pr, 0, none⟩ = false := hh 0 u0 rfl; have zz1 : w.cell? ⟨pr, 1, none⟩ = some u1 ∧ w.frozen? ⟨pr, 1, none⟩ = false := hh 1 u1 rfl; have zz2 : w.cell? ⟨pr, 2, none⟩ = some u2 ∧ w.frozen? ⟨pr, 2, none⟩ = false := hh 2 u2 rfl; exact ⟨(((w.setCell ⟨pr, 0, none⟩ (.int .i64 (cond (turn_bad b off f pm pa pr po m0 m1 m2 m3 m4 m5 m6 m7 m8 x0 x1 x2 W U) 0 ((dot [m0, m1, m2] [x0, x1, x2]).getD 0)))).setCell ⟨pr, 1, none⟩ (.int .i64 (cond (turn_bad b off f pm pa pr po m0 m1 m2 m3 m4 m5 m6 m7 m8 x0 x1 x2 W U) 0 ((dot [m3, m4, m5] [x0, x1, x2]).getD 0)))).setCell ⟨pr, 2, none⟩ (.int .i64 (cond (turn_bad b off f pm pa pr po m0 m1 m2 m3 m4 m5 m6 m7 m8 x0 x1 x2 W U) 0 ((dot [m6, m7, m8] [x0, x1, x2]).getD 0)))), by simp [execOp, go_sem, e1, e2, zz0.1, zz0.2, zz1.1, zz1.2, zz2.1, zz2.2], ((((Only.refl _ _).set 0 _).set 1 _).set 2 _), holds3 hh⟩)) ?_
    exact AllDo.nil
  · intro γ a w L hL hLo hH
    have hL' : ∀ j, j < 16 → L j = true := fun j hj => hL j hj
    have hG := hH.glob
    have hdf : a.defers = [] := hH.defers.trans rfl
    have hs : a.tmps[6]? = some (.pointer (some ⟨pr, 0, none⟩)) := (hH.rest 6 (dst_free (by kernel_rfl))).trans rfl
    obtain ⟨cs, c1, c2, c3⟩ := hG.res
    obtain rfl := c3 (hL' 15 (by omega))
    have ho2 := hG.outer.resolve_left (fun e => by have e2 : po = b := congrArg Addr.block e; omega)
    have hA : Hid (After ⟨b, off, none⟩ (f || turn_bad b off f pm pa pr po m0 m1 m2 m3 m4 m5 m6 m7 m8 x0 x1 x2 W U) W w) := by
      have e := ho2.1
      rw [show (turn_plan b off f pm pa pr po m0 m1 m2 m3 m4 m5 m6 m7 m8 x0 x1 x2 W U).tl = 14 from rfl, hL' 14 (by omega), Bool.true_and] at e
      exact hG.leaves.done e ho2.2
    have r0 : w.cell? ⟨pr, 0, none⟩ = some (.int .i64 (cond (turn_bad b off f pm pa pr po m0 m1 m2 m3 m4 m5 m6 m7 m8 x0 x1 x2 W U) 0 ((dot [m0, m1, m2] [x0, x1, x2]).getD 0))) := (c2 0 _ rfl).1
    have r1 : w.cell? ⟨pr, 1, none⟩ = some (.int .i64 (cond (turn_bad b off f pm pa pr po m0 m1 m2 m3 m4 m5 m6 m7 m8 x0 x1 x2 W U) 0 ((dot [m3, m4, m5] [x0, x1, x2]).getD 0))) := (c2 1 _ rfl).1
    have r2 : w.cell? ⟨pr, 2, none⟩ = some (.int .i64 (cond (turn_bad b off f pm pa pr po m0 m1 m2 m3 m4 m5 m6 m7 m8 x0 x1 x2 W U) 0 ((dot [m6, m7, m8] [x0, x1, x2]).getD 0))) := (c2 2 _ rfl).1
    clear hL hLo hL' hH hG c1 c2 c3 ho2 hπ
    go_wp2
    refine bodyPost_ret (by simp [results, Tryz.results96, go_sem, hs, r0, r1, r2]; try rfl) hdf ?_
    exact ⟨_, _, _, _, rfl, turn_step (by simp [turn_bad]), hA⟩

end Go.Proofs.YtompnibhfdkkjaaGreat
