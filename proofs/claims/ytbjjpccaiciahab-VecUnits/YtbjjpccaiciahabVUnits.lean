/- A unit vector is one long, but for 4 in the last place; a dot product goes both ways; a vector and its other way round are nothing together: true for all vectors. -/
import Derived.Test.YtbjjpccaiciahabAwake2
import Derived.Test.YtbjjpccaiciahabUMath
import Derived.Test.YtbjjpccaiciahabReg3
import Derived.Test.YtbjjpccaiciahabOpenV
import Derived.Test.YtbjjpccaiciahabRows
import Derived.ProofKit
import Derived.OpenShut
namespace Go.Proofs.Ytbjjpccaiciahab
namespace vecUnits
open Go.ChangeShapes Go.WideShapes Go.ChangeAt Go.RowKit Fx
set_option linter.unusedVariables false

theorem own : ownKnob Try.prog.godebug = none := by kernel_rfl

theorem leaves_of {w U : World} {p : Addr} (h : Below w.heap.size w U) : Leaves p w U :=
  ⟨h.size, fun q hq _ => ⟨h.cell hq, h.frozen hq⟩, fun B w' hb _ h2 => hb.trans (h.mono h2)⟩
theorem step_one {f : Bool} {o : Option Int} {v : Int} (h : Step f o v false) : o = some v := by
  obtain ⟨a, b⟩ := h
  cases o <;> simp_all
theorem step3_at (a b c : Option Int) : Step3 false a b c (v3at a b c a) (v3at a b c b) (v3at a b c c) (false || v3bad a b c) := ⟨rfl, rfl, rfl, rfl⟩

def unitsr_bad (pa pw : Nat) (g9 : Bool) (a0_0 a0_1 a0_2 : Int) (w8 U : World) : Bool := g9 || ([(5, v3bad (sub (0) (a0_0)) (sub (0) (a0_1)) (sub (0) (a0_2))), (6, v3bad (add (a0_0) (v3at (sub (0) (a0_0)) (sub (0) (a0_1)) (sub (0) (a0_2)) (sub (0) (a0_0)))) (add (a0_1) (v3at (sub (0) (a0_0)) (sub (0) (a0_1)) (sub (0) (a0_2)) (sub (0) (a0_1)))) (add (a0_2) (v3at (sub (0) (a0_0)) (sub (0) (a0_1)) (sub (0) (a0_2)) (sub (0) (a0_2)))))] : List (Nat × Bool)).any (·.2)

def unitsr_sh (pa pw : Nat) (g9 : Bool) (a0_0 a0_1 a0_2 : Int) (w8 U : World) : Nat → Shape
  | 0 => .is (.pointer (some ⟨pw, 0, none⟩))
  | 1 => .is (.agg #[.int .i64 (a0_0), .int .i64 (a0_1), .int .i64 (a0_2)])
  | 2 => .is (.pointer (some ⟨pw, 0, none⟩))
  | 3 => .is (.agg #[.int .i64 (0), .int .i64 (0), .int .i64 (0)])
  | 4 => .is (.agg #[.int .i64 (a0_0), .int .i64 (a0_1), .int .i64 (a0_2)])
  | 5 => .is (.agg #[.int .i64 (v3at (sub (0) (a0_0)) (sub (0) (a0_1)) (sub (0) (a0_2)) (sub (0) (a0_0))), .int .i64 (v3at (sub (0) (a0_0)) (sub (0) (a0_1)) (sub (0) (a0_2)) (sub (0) (a0_1))), .int .i64 (v3at (sub (0) (a0_0)) (sub (0) (a0_1)) (sub (0) (a0_2)) (sub (0) (a0_2)))])
  | 6 => .is (.agg #[.int .i64 (v3at (add (a0_0) (v3at (sub (0) (a0_0)) (sub (0) (a0_1)) (sub (0) (a0_2)) (sub (0) (a0_0)))) (add (a0_1) (v3at (sub (0) (a0_0)) (sub (0) (a0_1)) (sub (0) (a0_2)) (sub (0) (a0_1)))) (add (a0_2) (v3at (sub (0) (a0_0)) (sub (0) (a0_1)) (sub (0) (a0_2)) (sub (0) (a0_2)))) (add (a0_0) (v3at (sub (0) (a0_0)) (sub (0) (a0_1)) (sub (0) (a0_2)) (sub (0) (a0_0))))), .int .i64 (v3at (add (a0_0) (v3at (sub (0) (a0_0)) (sub (0) (a0_1)) (sub (0) (a0_2)) (sub (0) (a0_0)))) (add (a0_1) (v3at (sub (0) (a0_0)) (sub (0) (a0_1)) (sub (0) (a0_2)) (sub (0) (a0_1)))) (add (a0_2) (v3at (sub (0) (a0_0)) (sub (0) (a0_1)) (sub (0) (a0_2)) (sub (0) (a0_2)))) (add (a0_1) (v3at (sub (0) (a0_0)) (sub (0) (a0_1)) (sub (0) (a0_2)) (sub (0) (a0_1))))), .int .i64 (v3at (add (a0_0) (v3at (sub (0) (a0_0)) (sub (0) (a0_1)) (sub (0) (a0_2)) (sub (0) (a0_0)))) (add (a0_1) (v3at (sub (0) (a0_0)) (sub (0) (a0_1)) (sub (0) (a0_2)) (sub (0) (a0_1)))) (add (a0_2) (v3at (sub (0) (a0_0)) (sub (0) (a0_1)) (sub (0) (a0_2)) (sub (0) (a0_2)))) (add (a0_2) (v3at (sub (0) (a0_0)) (sub (0) (a0_1)) (sub (0) (a0_2)) (sub (0) (a0_2)))))])
  | 7 => .ptr
  | 8 => .ptr
  | _ => .ptr

def unitsr_plan (pa pw : Nat) (g9 : Bool) (a0_0 a0_1 a0_2 : Int) (w8 U : World) : Plan where
  W := w8
  N := U.heap.size
  p := ⟨pw, 0, none⟩
  fl := ⟨pw, 0, none⟩
  g0 := g9
  bad := unitsr_bad pa pw g9 a0_0 a0_1 a0_2 w8 U
  f := false
  calls := [(5, v3bad (sub (0) (a0_0)) (sub (0) (a0_1)) (sub (0) (a0_2))), (6, v3bad (add (a0_0) (v3at (sub (0) (a0_0)) (sub (0) (a0_1)) (sub (0) (a0_2)) (sub (0) (a0_0)))) (add (a0_1) (v3at (sub (0) (a0_0)) (sub (0) (a0_1)) (sub (0) (a0_2)) (sub (0) (a0_1)))) (add (a0_2) (v3at (sub (0) (a0_0)) (sub (0) (a0_1)) (sub (0) (a0_2)) (sub (0) (a0_2)))))]
  tl := 100000
  st := 100001
  r := 0
  res := []
  fixed := [(⟨pa, 0, none⟩, .int .i64 (a0_0)),
    (⟨pa, 1, none⟩, .int .i64 (a0_1)),
    (⟨pa, 2, none⟩, .int .i64 (a0_2))]
  made := [⟨7, 8, [.int .i64 (v3at (add (a0_0) (v3at (sub (0) (a0_0)) (sub (0) (a0_1)) (sub (0) (a0_2)) (sub (0) (a0_0)))) (add (a0_1) (v3at (sub (0) (a0_0)) (sub (0) (a0_1)) (sub (0) (a0_2)) (sub (0) (a0_1)))) (add (a0_2) (v3at (sub (0) (a0_0)) (sub (0) (a0_1)) (sub (0) (a0_2)) (sub (0) (a0_2)))) (add (a0_0) (v3at (sub (0) (a0_0)) (sub (0) (a0_1)) (sub (0) (a0_2)) (sub (0) (a0_0))))), .int .i64 (v3at (add (a0_0) (v3at (sub (0) (a0_0)) (sub (0) (a0_1)) (sub (0) (a0_2)) (sub (0) (a0_0)))) (add (a0_1) (v3at (sub (0) (a0_0)) (sub (0) (a0_1)) (sub (0) (a0_2)) (sub (0) (a0_1)))) (add (a0_2) (v3at (sub (0) (a0_0)) (sub (0) (a0_1)) (sub (0) (a0_2)) (sub (0) (a0_2)))) (add (a0_1) (v3at (sub (0) (a0_0)) (sub (0) (a0_1)) (sub (0) (a0_2)) (sub (0) (a0_1))))), .int .i64 (v3at (add (a0_0) (v3at (sub (0) (a0_0)) (sub (0) (a0_1)) (sub (0) (a0_2)) (sub (0) (a0_0)))) (add (a0_1) (v3at (sub (0) (a0_0)) (sub (0) (a0_1)) (sub (0) (a0_2)) (sub (0) (a0_1)))) (add (a0_2) (v3at (sub (0) (a0_0)) (sub (0) (a0_1)) (sub (0) (a0_2)) (sub (0) (a0_2)))) (add (a0_2) (v3at (sub (0) (a0_0)) (sub (0) (a0_1)) (sub (0) (a0_2)) (sub (0) (a0_2)))))]⟩]

theorem unitsr_cn (pa pw : Nat) (g9 : Bool) (a0_0 a0_1 a0_2 : Int) (w8 U : World) : ((unitsr_plan pa pw g9 a0_0 a0_1 a0_2 w8 U).calls.map (·.1)).Nodup := of_decide_eq_true rfl
theorem unitsr_mn (pa pw : Nat) (g9 : Bool) (a0_0 a0_1 a0_2 : Int) (w8 U : World) : ((unitsr_plan pa pw g9 a0_0 a0_1 a0_2 w8 U).made.map (·.i)).Nodup := of_decide_eq_true rfl
theorem unitsr_bads (pa pw : Nat) (g9 : Bool) (a0_0 a0_1 a0_2 : Int) (w8 U : World) : ((unitsr_plan pa pw g9 a0_0 a0_1 a0_2 w8 U).bad = true → (unitsr_plan pa pw g9 a0_0 a0_1 a0_2 w8 U).g0 = true ∨ ∃ c ∈ (unitsr_plan pa pw g9 a0_0 a0_1 a0_2 w8 U).calls, c.2 = true) ∧ ∀ c ∈ (unitsr_plan pa pw g9 a0_0 a0_1 a0_2 w8 U).calls, c.2 = true → (unitsr_plan pa pw g9 a0_0 a0_1 a0_2 w8 U).bad = true :=
  bad_any_of _ rfl

theorem unitsr_sn (pa pw : Nat) (g9 : Bool) (a0_0 a0_1 a0_2 : Int) (w8 U : World) : ((unitsr_plan pa pw g9 a0_0 a0_1 a0_2 w8 U).made.map (·.s)).Nodup := of_decide_eq_true rfl
set_option maxRecDepth 100000 in
set_option maxHeartbeats 8000000 in
theorem walk (a0_0 a0_1 a0_2 a1_0 a1_1 a1_2 : Int) (w0_0 : (Lit.int .i64 a0_0).wf = true) (w0_1 : (Lit.int .i64 a0_1).wf = true) (w0_2 : (Lit.int .i64 a0_2).wf = true) (w1_0 : (Lit.int .i64 a1_0).wf = true) (w1_1 : (Lit.int .i64 a1_1).wf = true) (w1_2 : (Lit.int .i64 a1_2).wf = true) (w : World) :
    Calls Try.prog 5 #[.agg #[.int .i64 a0_0, .int .i64 a0_1, .int .i64 a0_2], .agg #[.int .i64 a1_0, .int .i64 a1_1, .int .i64 a1_2]] w fun e w' => e = .returned (.bool true) ∧ Below w.heap.size w w' := by
  have b0_0 := bounds_i64 w0_0
  have b0_1 := bounds_i64 w0_1
  have b0_2 := bounds_i64 w0_2
  have b1_0 := bounds_i64 w1_0
  have b1_1 := bounds_i64 w1_1
  have b1_2 := bounds_i64 w1_2
  clear w0_0 w0_1 w0_2 w1_0 w1_1 w1_2
  have AW : Hid _ := fun W => awake2_any W
  go_enter Try.func5, Try.ntmps5
  go_wp2_with (fail)
  refine Calls.mono (AW.out _) ?_
  rintro e V ⟨rfl, hb0⟩
  clear AW
  have xpa_0 : V.cell? ⟨w.heap.size, 0, none⟩ = some (.int .i64 a0_0) := cell_after hb0 (by simp [go_sem])
  have xpa_1 : V.cell? ⟨w.heap.size, 1, none⟩ = some (.int .i64 a0_1) := cell_after hb0 (by simp [go_sem])
  have xpa_2 : V.cell? ⟨w.heap.size, 2, none⟩ = some (.int .i64 a0_2) := cell_after hb0 (by simp [go_sem])
  have xpb_0 : V.cell? ⟨w.heap.size + 1, 0, none⟩ = some (.int .i64 a1_0) := cell_after hb0 (by simp [go_sem])
  have xpb_1 : V.cell? ⟨w.heap.size + 1, 1, none⟩ = some (.int .i64 a1_1) := cell_after hb0 (by simp [go_sem])
  have xpb_2 : V.cell? ⟨w.heap.size + 1, 2, none⟩ = some (.int .i64 a1_2) := cell_after hb0 (by simp [go_sem])
  have hsV := hb0.size
  simp only [World.size_alloc] at hsV
  have HB : Hid (Below w.heap.size w V) := below_step (((Below.refl _ _).alloc (by first | (simp; done) | (simp; omega)) _).alloc (by first | (simp; done) | (simp; omega)) _) hb0
  obtain ⟨pa, hpa⟩ : ∃ p, p = w.heap.size := ⟨_, rfl⟩
  obtain ⟨pb, hpb⟩ : ∃ p, p = w.heap.size + 1 := ⟨_, rfl⟩
  clear hb0
  rw [← hpb]
  rw [← hpb] at xpb_0 xpb_1 xpb_2
  rw [← hpa]
  rw [← hpa] at xpa_0 xpa_1 xpa_2
  have hsw : w.heap.size ≤ V.heap.size := HB.out.size
  have qpa : pa < V.heap.size := by omega
  have qpb : pb < V.heap.size := by omega
  clear hpa hpb hsV
  obtain ⟨pw, hpw⟩ : ∃ p, p = V.heap.size := ⟨_, rfl⟩
  have nb := new_after V (.cells #[.bool false] 27)
  have xpa_0 := cell_after nb xpa_0
  have xpa_1 := cell_after nb xpa_1
  have xpa_2 := cell_after nb xpa_2
  have xpb_0 := cell_after nb xpb_0
  have xpb_1 := cell_after nb xpb_1
  have xpb_2 := cell_after nb xpb_2
  have HB : Hid _ := HB.out.alloc HB.out.size (.cells #[.bool false] 27)
  clear nb
  have c : (V.alloc (.cells #[.bool false] 27)).cell? ⟨pw, 0, none⟩ = some (.bool false) := by rw [hpw]; simp
  have f : (V.alloc (.cells #[.bool false] 27)).frozen? ⟨pw, 0, none⟩ = false := by rw [hpw]; simp
  have qw : w.heap.size ≤ pw := by omega
  have qaw : pa < pw := by omega
  have qbw : pb < pw := by omega
  go_wp2_with (fail)
  rw [← hpw]
  refine (vdot_law pw 0 false a0_0 a0_1 a0_2 a1_0 a1_1 a1_2 _ c f).mono ?_
  rintro e W1 ⟨x, g1, rfl, S1, Z⟩
  have HB : Hid _ := Z.out.below _ _ HB.out qw HB.out.size
  have xpa_0 := Z.out.cellOf xpa_0 (by show pa ≠ pw; omega)
  have xpa_1 := Z.out.cellOf xpa_1 (by show pa ≠ pw; omega)
  have xpa_2 := Z.out.cellOf xpa_2 (by show pa ≠ pw; omega)
  have xpb_0 := Z.out.cellOf xpb_0 (by show pb ≠ pw; omega)
  have xpb_1 := Z.out.cellOf xpb_1 (by show pb ≠ pw; omega)
  have xpb_2 := Z.out.cellOf xpb_2 (by show pb ≠ pw; omega)
  have c := Z.out.cell
  have f := Z.out.frozen
  clear Z hpw
  go_wp2_with (fail)
  refine (vdot_law pw 0 g1 a1_0 a1_1 a1_2 a0_0 a0_1 a0_2 _ c f).mono ?_
  rintro e U ⟨y, g9, rfl, S2, Z⟩
  obtain rfl : x = y := by rw [S1.out.1, S2.out.1, dot_comm3]
  have HB : Hid _ := Z.out.below _ _ HB.out qw HB.out.size
  have xpa_0 := Z.out.cellOf xpa_0 (by show pa ≠ pw; omega)
  have xpa_1 := Z.out.cellOf xpa_1 (by show pa ≠ pw; omega)
  have xpa_2 := Z.out.cellOf xpa_2 (by show pa ≠ pw; omega)
  have xpb_0 := Z.out.cellOf xpb_0 (by show pb ≠ pw; omega)
  have xpb_1 := Z.out.cellOf xpb_1 (by show pb ≠ pw; omega)
  have xpb_2 := Z.out.cellOf xpb_2 (by show pb ≠ pw; omega)
  have c := Z.out.cell
  have f := Z.out.frozen
  have qU : pw < U.heap.size := World.block_lt_of_cell? _ _ c
  clear Z S1 S2
  obtain ⟨w8, hw8⟩ : ∃ x : World, x = w := ⟨_, rfl⟩
  have HL : Hid (Leaves ⟨pw, 0, none⟩ w8 U) := by show Leaves _ _ _; rw [hw8]; exact leaves_of HB.out
  have q8 : w8.heap.size ≤ U.heap.size := by rw [hw8]; exact HB.out.size
  have HW8 : Hid _ := hw8
  clear hw8
  go_wp2_with (fail)
  have hπ : (unitsr_plan pa pw g9 a0_0 a0_1 a0_2 w8 U).Good := by
    refine ⟨?_, Or.inl rfl, Or.inl rfl, ?_, Or.inl rfl, ?_, (unitsr_bads pa pw g9 a0_0 a0_1 a0_2 w8 U).1, (unitsr_bads pa pw g9 a0_0 a0_1 a0_2 w8 U).2⟩
    · show w8.heap.size ≤ U.heap.size; omega
    · show pw < U.heap.size; omega
    · intro c hc
      simp only [unitsr_plan, List.mem_cons, List.not_mem_nil, or_false] at hc
      rcases hc with rfl | rfl | rfl <;> (show _ < U.heap.size ∧ _ ≠ pw ∧ _ ≠ pw) <;> (dsimp only) <;> omega
  refine region_by (shapeVal (unitsr_sh pa pw g9 a0_0 a0_1 a0_2 w8 U)) (Glob (unitsr_plan pa pw g9 a0_0 a0_1 a0_2 w8 U)) (by kernel_rfl) (by kernel_rfl) (by kernel_rfl) (by kernel_rfl) (fun _ => 0) ?_ ?_ ?_
  · refine ⟨?_, ?_, ?_, ?_, ?_, ?_, (fun _ _ h => by cases h), (fun _ _ _ _ h => by cases h)⟩
    · exact HL.out.drew
    · exact Nat.le_refl _
    · exact ⟨g9, c, f, fun h => by show unitsr_bad pa pw g9 a0_0 a0_1 a0_2 w8 U = true; simp [unitsr_bad, h], fun h => h, fun _ _ h => by cases h⟩
    · exact Or.inl rfl
    · exact ⟨[], rfl, fun k v hk => by simp at hk, fun h => by cases h⟩
    · intro x hx
      simp only [unitsr_plan, List.mem_cons, List.not_mem_nil, or_false] at hx
      rcases hx with rfl | rfl | rfl <;> assumption
  · generalize hD : dstOf _ = D
    generalize hA : waitsFor _ = A
    generalize hZ : Act.mk _ _ = Z
    have d0 : D 0 = some 24 := by rw [← hD]; rfl
    have d1 : D 1 = some 25 := by rw [← hD]; rfl
    have d2 : D 2 = some 26 := by rw [← hD]; rfl
    have d3 : D 3 = some 27 := by rw [← hD]; rfl
    have d4 : D 4 = some 28 := by rw [← hD]; rfl
    have d5 : D 5 = some 29 := by rw [← hD]; rfl
    have d6 : D 6 = some 30 := by rw [← hD]; rfl
    have d7 : D 7 = some 9 := by rw [← hD]; rfl
    have R2 : ∀ (γ : Nat → Nat) (L : Nat → Bool) (a : Act) (w : World), Held D A (shapeVal (unitsr_sh pa pw g9 a0_0 a0_1 a0_2 w8 U)) (Glob (unitsr_plan pa pw g9 a0_0 a0_1 a0_2 w8 U)) Z γ L a w → a.tmps[2]? = some (.pointer (some ⟨pa, 0, none⟩)) := fun γ L a w hH => (hH.rest 2 (by rw [← hD]; exact dst_free (by kernel_rfl))).trans (by rw [← hZ]; rfl)
    have R6 : ∀ (γ : Nat → Nat) (L : Nat → Bool) (a : Act) (w : World), Held D A (shapeVal (unitsr_sh pa pw g9 a0_0 a0_1 a0_2 w8 U)) (Glob (unitsr_plan pa pw g9 a0_0 a0_1 a0_2 w8 U)) Z γ L a w → a.tmps[6]? = some (.pointer (some ⟨pw, 0, none⟩)) := fun γ L a w hH => (hH.rest 6 (by rw [← hD]; exact dst_free (by kernel_rfl))).trans (by rw [← hZ]; rfl)
    have A_8_7 : A 8 7 := by rw [← hA]; exact ⟨_, rfl, ⟨7, .data⟩, by simp, rfl, rfl⟩
    clear hD hA hZ
    refine AllDo.cons 0 rfl (does_pure _ rfl rfl (fun γ L a w hH hA => by have e1 := R6 γ L a w hH; simp [execOp, go_sem, e1])) ?_
    refine AllDo.cons 1 rfl (does_pure _ rfl rfl (fun γ L a w hH hA => by have e1 := R2 γ L a w hH; have e2 := hH.glob.fix (⟨pa, 0, none⟩, .int .i64 (a0_0)) (by simp [unitsr_plan]); have e3 := hH.glob.fix (⟨pa, 1, none⟩, .int .i64 (a0_1)) (by simp [unitsr_plan]); have e4 := hH.glob.fix (⟨pa, 2, none⟩, .int .i64 (a0_2)) (by simp [unitsr_plan]); simp [execOp, go_sem, e1, e2, e3, e4])) ?_
    refine AllDo.cons 2 rfl (does_pure _ rfl rfl (fun γ L a w hH hA => by have e1 := R6 γ L a w hH; simp [execOp, go_sem, e1])) ?_
    refine AllDo.cons 3 rfl (does_pure _ rfl rfl (fun γ L a w hH hA => by simp [execOp, go_sem])) ?_
    refine AllDo.cons 4 rfl (does_pure _ rfl rfl (fun γ L a w hH hA => by have e1 := R2 γ L a w hH; have e2 := hH.glob.fix (⟨pa, 0, none⟩, .int .i64 (a0_0)) (by simp [unitsr_plan]); have e3 := hH.glob.fix (⟨pa, 1, none⟩, .int .i64 (a0_1)) (by simp [unitsr_plan]); have e4 := hH.glob.fix (⟨pa, 2, none⟩, .int .i64 (a0_2)) (by simp [unitsr_plan]); simp [execOp, go_sem, e1, e2, e3, e4])) ?_
    refine AllDo.cons 5 rfl (does_call hπ _ (v3bad (sub (0) (a0_0)) (sub (0) (a0_1)) (sub (0) (a0_2))) rfl (by simp [unitsr_plan]) (calls_only (unitsr_cn pa pw g9 a0_0 a0_1 a0_2 w8 U) (by simp [unitsr_plan])) rfl (fun γ L a w hH hA g hg hz => by have e1 := hH.at d2 (rfl : unitsr_sh pa pw g9 a0_0 a0_1 a0_2 w8 U 2 = _) (hA ⟨2, .data⟩ (by simp) rfl); have e2 := hH.at d3 (rfl : unitsr_sh pa pw g9 a0_0 a0_1 a0_2 w8 U 3 = _) (hA ⟨3, .data⟩ (by simp) rfl); have e3 := hH.at d4 (rfl : unitsr_sh pa pw g9 a0_0 a0_1 a0_2 w8 U 4 = _) (hA ⟨4, .data⟩ (by simp) rfl); exact ⟨20, #[.pointer (some ⟨pw, 0, none⟩), .agg #[.int .i64 (0), .int .i64 (0), .int .i64 (0)], .agg #[.int .i64 (a0_0), .int .i64 (a0_1), .int .i64 (a0_2)]], by simp [go_sem, e1, e2, e3], (vsub_law pw 0 g (0) (0) (0) (a0_0) (a0_1) (a0_2) w hg hz).mono (by rintro e W1 ⟨v0, v1, v2, g1, rfl, S, Z⟩; exact ⟨by rw [S.out.1, S.out.2.1, S.out.2.2.1]; rfl, g1, S.out.2.2.2, Z.out⟩)⟩)) ?_
    refine AllDo.cons 6 rfl (does_call hπ _ (v3bad (add (a0_0) (v3at (sub (0) (a0_0)) (sub (0) (a0_1)) (sub (0) (a0_2)) (sub (0) (a0_0)))) (add (a0_1) (v3at (sub (0) (a0_0)) (sub (0) (a0_1)) (sub (0) (a0_2)) (sub (0) (a0_1)))) (add (a0_2) (v3at (sub (0) (a0_0)) (sub (0) (a0_1)) (sub (0) (a0_2)) (sub (0) (a0_2))))) rfl (by simp [unitsr_plan]) (calls_only (unitsr_cn pa pw g9 a0_0 a0_1 a0_2 w8 U) (by simp [unitsr_plan])) rfl (fun γ L a w hH hA g hg hz => by have e1 := hH.at d0 (rfl : unitsr_sh pa pw g9 a0_0 a0_1 a0_2 w8 U 0 = _) (hA ⟨0, .data⟩ (by simp) rfl); have e2 := hH.at d1 (rfl : unitsr_sh pa pw g9 a0_0 a0_1 a0_2 w8 U 1 = _) (hA ⟨1, .data⟩ (by simp) rfl); have e3 := hH.at d5 (rfl : unitsr_sh pa pw g9 a0_0 a0_1 a0_2 w8 U 5 = _) (hA ⟨5, .data⟩ (by simp) rfl); exact ⟨19, #[.pointer (some ⟨pw, 0, none⟩), .agg #[.int .i64 (a0_0), .int .i64 (a0_1), .int .i64 (a0_2)], .agg #[.int .i64 (v3at (sub (0) (a0_0)) (sub (0) (a0_1)) (sub (0) (a0_2)) (sub (0) (a0_0))), .int .i64 (v3at (sub (0) (a0_0)) (sub (0) (a0_1)) (sub (0) (a0_2)) (sub (0) (a0_1))), .int .i64 (v3at (sub (0) (a0_0)) (sub (0) (a0_1)) (sub (0) (a0_2)) (sub (0) (a0_2)))]], by simp [go_sem, e1, e2, e3], (vadd_law pw 0 g (a0_0) (a0_1) (a0_2) (v3at (sub (0) (a0_0)) (sub (0) (a0_1)) (sub (0) (a0_2)) (sub (0) (a0_0))) (v3at (sub (0) (a0_0)) (sub (0) (a0_1)) (sub (0) (a0_2)) (sub (0) (a0_1))) (v3at (sub (0) (a0_0)) (sub (0) (a0_1)) (sub (0) (a0_2)) (sub (0) (a0_2))) w hg hz).mono (by rintro e W1 ⟨v0, v1, v2, g1, rfl, S, Z⟩; exact ⟨by rw [S.out.1, S.out.2.1, S.out.2.2.1]; rfl, g1, S.out.2.2.2, Z.out⟩)⟩)) ?_
    refine AllDo.cons 7 rfl (does_makes rfl ⟨7, 8, [.int .i64 (v3at (add (a0_0) (v3at (sub (0) (a0_0)) (sub (0) (a0_1)) (sub (0) (a0_2)) (sub (0) (a0_0)))) (add (a0_1) (v3at (sub (0) (a0_0)) (sub (0) (a0_1)) (sub (0) (a0_2)) (sub (0) (a0_1)))) (add (a0_2) (v3at (sub (0) (a0_0)) (sub (0) (a0_1)) (sub (0) (a0_2)) (sub (0) (a0_2)))) (add (a0_0) (v3at (sub (0) (a0_0)) (sub (0) (a0_1)) (sub (0) (a0_2)) (sub (0) (a0_0))))), .int .i64 (v3at (add (a0_0) (v3at (sub (0) (a0_0)) (sub (0) (a0_1)) (sub (0) (a0_2)) (sub (0) (a0_0)))) (add (a0_1) (v3at (sub (0) (a0_0)) (sub (0) (a0_1)) (sub (0) (a0_2)) (sub (0) (a0_1)))) (add (a0_2) (v3at (sub (0) (a0_0)) (sub (0) (a0_1)) (sub (0) (a0_2)) (sub (0) (a0_2)))) (add (a0_1) (v3at (sub (0) (a0_0)) (sub (0) (a0_1)) (sub (0) (a0_2)) (sub (0) (a0_1))))), .int .i64 (v3at (add (a0_0) (v3at (sub (0) (a0_0)) (sub (0) (a0_1)) (sub (0) (a0_2)) (sub (0) (a0_0)))) (add (a0_1) (v3at (sub (0) (a0_0)) (sub (0) (a0_1)) (sub (0) (a0_2)) (sub (0) (a0_1)))) (add (a0_2) (v3at (sub (0) (a0_0)) (sub (0) (a0_1)) (sub (0) (a0_2)) (sub (0) (a0_2)))) (add (a0_2) (v3at (sub (0) (a0_0)) (sub (0) (a0_1)) (sub (0) (a0_2)) (sub (0) (a0_2)))))]⟩ (by simp [unitsr_plan]) rfl (made_only (unitsr_mn pa pw g9 a0_0 a0_1 a0_2 w8 U) (m := ⟨7, 8, [.int .i64 (v3at (add (a0_0) (v3at (sub (0) (a0_0)) (sub (0) (a0_1)) (sub (0) (a0_2)) (sub (0) (a0_0)))) (add (a0_1) (v3at (sub (0) (a0_0)) (sub (0) (a0_1)) (sub (0) (a0_2)) (sub (0) (a0_1)))) (add (a0_2) (v3at (sub (0) (a0_0)) (sub (0) (a0_1)) (sub (0) (a0_2)) (sub (0) (a0_2)))) (add (a0_0) (v3at (sub (0) (a0_0)) (sub (0) (a0_1)) (sub (0) (a0_2)) (sub (0) (a0_0))))), .int .i64 (v3at (add (a0_0) (v3at (sub (0) (a0_0)) (sub (0) (a0_1)) (sub (0) (a0_2)) (sub (0) (a0_0)))) (add (a0_1) (v3at (sub (0) (a0_0)) (sub (0) (a0_1)) (sub (0) (a0_2)) (sub (0) (a0_1)))) (add (a0_2) (v3at (sub (0) (a0_0)) (sub (0) (a0_1)) (sub (0) (a0_2)) (sub (0) (a0_2)))) (add (a0_1) (v3at (sub (0) (a0_0)) (sub (0) (a0_1)) (sub (0) (a0_2)) (sub (0) (a0_1))))), .int .i64 (v3at (add (a0_0) (v3at (sub (0) (a0_0)) (sub (0) (a0_1)) (sub (0) (a0_2)) (sub (0) (a0_0)))) (add (a0_1) (v3at (sub (0) (a0_0)) (sub (0) (a0_1)) (sub (0) (a0_2)) (sub (0) (a0_1)))) (add (a0_2) (v3at (sub (0) (a0_0)) (sub (0) (a0_1)) (sub (0) (a0_2)) (sub (0) (a0_2)))) (add (a0_2) (v3at (sub (0) (a0_0)) (sub (0) (a0_1)) (sub (0) (a0_2)) (sub (0) (a0_2)))))]⟩) (by simp [unitsr_plan])) (Or.inr A_8_7) [.int .i64 0, .int .i64 0, .int .i64 0] 23 rfl (fun h => absurd h (by simp)) (fun γ L a w hH hA => by simp [execOp, go_sem, shapeVal, unitsr_sh, upd_self])) ?_
    refine AllDo.cons 8 rfl (does_fill hπ rfl (by simp [unitsr_plan]) (by simp [unitsr_plan]) (by simp [unitsr_plan]) ⟨7, 8, [.int .i64 (v3at (add (a0_0) (v3at (sub (0) (a0_0)) (sub (0) (a0_1)) (sub (0) (a0_2)) (sub (0) (a0_0)))) (add (a0_1) (v3at (sub (0) (a0_0)) (sub (0) (a0_1)) (sub (0) (a0_2)) (sub (0) (a0_1)))) (add (a0_2) (v3at (sub (0) (a0_0)) (sub (0) (a0_1)) (sub (0) (a0_2)) (sub (0) (a0_2)))) (add (a0_0) (v3at (sub (0) (a0_0)) (sub (0) (a0_1)) (sub (0) (a0_2)) (sub (0) (a0_0))))), .int .i64 (v3at (add (a0_0) (v3at (sub (0) (a0_0)) (sub (0) (a0_1)) (sub (0) (a0_2)) (sub (0) (a0_0)))) (add (a0_1) (v3at (sub (0) (a0_0)) (sub (0) (a0_1)) (sub (0) (a0_2)) (sub (0) (a0_1)))) (add (a0_2) (v3at (sub (0) (a0_0)) (sub (0) (a0_1)) (sub (0) (a0_2)) (sub (0) (a0_2)))) (add (a0_1) (v3at (sub (0) (a0_0)) (sub (0) (a0_1)) (sub (0) (a0_2)) (sub (0) (a0_1))))), .int .i64 (v3at (add (a0_0) (v3at (sub (0) (a0_0)) (sub (0) (a0_1)) (sub (0) (a0_2)) (sub (0) (a0_0)))) (add (a0_1) (v3at (sub (0) (a0_0)) (sub (0) (a0_1)) (sub (0) (a0_2)) (sub (0) (a0_1)))) (add (a0_2) (v3at (sub (0) (a0_0)) (sub (0) (a0_1)) (sub (0) (a0_2)) (sub (0) (a0_2)))) (add (a0_2) (v3at (sub (0) (a0_0)) (sub (0) (a0_1)) (sub (0) (a0_2)) (sub (0) (a0_2)))))]⟩ (by simp [unitsr_plan]) rfl (by simp [unitsr_plan]) (fill_only (unitsr_sn pa pw g9 a0_0 a0_1 a0_2 w8 U) (m := ⟨7, 8, [.int .i64 (v3at (add (a0_0) (v3at (sub (0) (a0_0)) (sub (0) (a0_1)) (sub (0) (a0_2)) (sub (0) (a0_0)))) (add (a0_1) (v3at (sub (0) (a0_0)) (sub (0) (a0_1)) (sub (0) (a0_2)) (sub (0) (a0_1)))) (add (a0_2) (v3at (sub (0) (a0_0)) (sub (0) (a0_1)) (sub (0) (a0_2)) (sub (0) (a0_2)))) (add (a0_0) (v3at (sub (0) (a0_0)) (sub (0) (a0_1)) (sub (0) (a0_2)) (sub (0) (a0_0))))), .int .i64 (v3at (add (a0_0) (v3at (sub (0) (a0_0)) (sub (0) (a0_1)) (sub (0) (a0_2)) (sub (0) (a0_0)))) (add (a0_1) (v3at (sub (0) (a0_0)) (sub (0) (a0_1)) (sub (0) (a0_2)) (sub (0) (a0_1)))) (add (a0_2) (v3at (sub (0) (a0_0)) (sub (0) (a0_1)) (sub (0) (a0_2)) (sub (0) (a0_2)))) (add (a0_1) (v3at (sub (0) (a0_0)) (sub (0) (a0_1)) (sub (0) (a0_2)) (sub (0) (a0_1))))), .int .i64 (v3at (add (a0_0) (v3at (sub (0) (a0_0)) (sub (0) (a0_1)) (sub (0) (a0_2)) (sub (0) (a0_0)))) (add (a0_1) (v3at (sub (0) (a0_0)) (sub (0) (a0_1)) (sub (0) (a0_2)) (sub (0) (a0_1)))) (add (a0_2) (v3at (sub (0) (a0_0)) (sub (0) (a0_1)) (sub (0) (a0_2)) (sub (0) (a0_2)))) (add (a0_2) (v3at (sub (0) (a0_0)) (sub (0) (a0_1)) (sub (0) (a0_2)) (sub (0) (a0_2)))))]⟩) (by simp [unitsr_plan])) (made_only (unitsr_mn pa pw g9 a0_0 a0_1 a0_2 w8 U) (m := ⟨7, 8, [.int .i64 (v3at (add (a0_0) (v3at (sub (0) (a0_0)) (sub (0) (a0_1)) (sub (0) (a0_2)) (sub (0) (a0_0)))) (add (a0_1) (v3at (sub (0) (a0_0)) (sub (0) (a0_1)) (sub (0) (a0_2)) (sub (0) (a0_1)))) (add (a0_2) (v3at (sub (0) (a0_0)) (sub (0) (a0_1)) (sub (0) (a0_2)) (sub (0) (a0_2)))) (add (a0_0) (v3at (sub (0) (a0_0)) (sub (0) (a0_1)) (sub (0) (a0_2)) (sub (0) (a0_0))))), .int .i64 (v3at (add (a0_0) (v3at (sub (0) (a0_0)) (sub (0) (a0_1)) (sub (0) (a0_2)) (sub (0) (a0_0)))) (add (a0_1) (v3at (sub (0) (a0_0)) (sub (0) (a0_1)) (sub (0) (a0_2)) (sub (0) (a0_1)))) (add (a0_2) (v3at (sub (0) (a0_0)) (sub (0) (a0_1)) (sub (0) (a0_2)) (sub (0) (a0_2)))) (add (a0_1) (v3at (sub (0) (a0_0)) (sub (0) (a0_1)) (sub (0) (a0_2)) (sub (0) (a0_1))))), .int .i64 (v3at (add (a0_0) (v3at (sub (0) (a0_0)) (sub (0) (a0_1)) (sub (0) (a0_2)) (sub (0) (a0_0)))) (add (a0_1) (v3at (sub (0) (a0_0)) (sub (0) (a0_1)) (sub (0) (a0_2)) (sub (0) (a0_1)))) (add (a0_2) (v3at (sub (0) (a0_0)) (sub (0) (a0_1)) (sub (0) (a0_2)) (sub (0) (a0_2)))) (add (a0_2) (v3at (sub (0) (a0_0)) (sub (0) (a0_1)) (sub (0) (a0_2)) (sub (0) (a0_2)))))]⟩) (by simp [unitsr_plan])) (fun γ L a w hH hA => ⟨hA ⟨7, .data⟩ (by simp) rfl, fun cs hl hh => by have e1 := hH.ptrAt d7 (rfl : unitsr_sh pa pw g9 a0_0 a0_1 a0_2 w8 U 7 = _) (hA ⟨7, .data⟩ (by simp) rfl); have e2 := hH.at d6 (rfl : unitsr_sh pa pw g9 a0_0 a0_1 a0_2 w8 U 6 = _) (hA ⟨6, .data⟩ (by simp) rfl); obtain ⟨u0, u1, u2, rfl⟩ := list3 hl; have zz0 : w.cell? ⟨γ 7, 0, none⟩ = some u0 ∧ w.frozen? ⟨γ 7, 0, none⟩ = false := hh 0 u0 rfl; have zz1 : w.cell? ⟨γ 7, 1, none⟩ = some u1 ∧ w.frozen? ⟨γ 7, 1, none⟩ = false := hh 1 u1 rfl; have zz2 : w.cell? ⟨γ 7, 2, none⟩ = some u2 ∧ w.frozen? ⟨γ 7, 2, none⟩ = false := hh 2 u2 rfl; exact ⟨(((w.setCell ⟨γ 7, 0, none⟩ (.int .i64 (v3at (add (a0_0) (v3at (sub (0) (a0_0)) (sub (0) (a0_1)) (sub (0) (a0_2)) (sub (0) (a0_0)))) (add (a0_1) (v3at (sub (0) (a0_0)) (sub (0) (a0_1)) (sub (0) (a0_2)) (sub (0) (a0_1)))) (add (a0_2) (v3at (sub (0) (a0_0)) (sub (0) (a0_1)) (sub (0) (a0_2)) (sub (0) (a0_2)))) (add (a0_0) (v3at (sub (0) (a0_0)) (sub (0) (a0_1)) (sub (0) (a0_2)) (sub (0) (a0_0))))))).setCell ⟨γ 7, 1, none⟩ (.int .i64 (v3at (add (a0_0) (v3at (sub (0) (a0_0)) (sub (0) (a0_1)) (sub (0) (a0_2)) (sub (0) (a0_0)))) (add (a0_1) (v3at (sub (0) (a0_0)) (sub (0) (a0_1)) (sub (0) (a0_2)) (sub (0) (a0_1)))) (add (a0_2) (v3at (sub (0) (a0_0)) (sub (0) (a0_1)) (sub (0) (a0_2)) (sub (0) (a0_2)))) (add (a0_1) (v3at (sub (0) (a0_0)) (sub (0) (a0_1)) (sub (0) (a0_2)) (sub (0) (a0_1))))))).setCell ⟨γ 7, 2, none⟩ (.int .i64 (v3at (add (a0_0) (v3at (sub (0) (a0_0)) (sub (0) (a0_1)) (sub (0) (a0_2)) (sub (0) (a0_0)))) (add (a0_1) (v3at (sub (0) (a0_0)) (sub (0) (a0_1)) (sub (0) (a0_2)) (sub (0) (a0_1)))) (add (a0_2) (v3at (sub (0) (a0_0)) (sub (0) (a0_1)) (sub (0) (a0_2)) (sub (0) (a0_2)))) (add (a0_2) (v3at (sub (0) (a0_0)) (sub (0) (a0_1)) (sub (0) (a0_2)) (sub (0) (a0_2))))))), by simp [execOp, go_sem, e1, e2, zz0.1, zz0.2, zz1.1, zz1.2, zz2.1, zz2.2], ((((Only.refl _ _).set 0 _).set 1 _).set 2 _), holds3 hh⟩⟩)) ?_
    exact AllDo.nil
  · intro γ a1 w1 L hL hLo hH
    have hL' : ∀ j, j < 9 → L j = true := fun j hj => hL j hj
    have ha := held_act hH hL (by kernel_rfl) (by kernel_rfl)
    have hG := hH.glob
    obtain ⟨u1, u2, cs, _, u3, u4⟩ := hG.made ⟨7, 8, _⟩ (by simp [unitsr_plan]; rfl) (hL' 7 (by omega))
    obtain rfl := u4 (hL' 8 (by omega))
    have y0 : w1.cell? ⟨γ 7, 0, none⟩ = some (.int .i64 (v3at (add (a0_0) (v3at (sub (0) (a0_0)) (sub (0) (a0_1)) (sub (0) (a0_2)) (sub (0) (a0_0)))) (add (a0_1) (v3at (sub (0) (a0_0)) (sub (0) (a0_1)) (sub (0) (a0_2)) (sub (0) (a0_1)))) (add (a0_2) (v3at (sub (0) (a0_0)) (sub (0) (a0_1)) (sub (0) (a0_2)) (sub (0) (a0_2)))) (add (a0_0) (v3at (sub (0) (a0_0)) (sub (0) (a0_1)) (sub (0) (a0_2)) (sub (0) (a0_0)))))) := (u3 0 _ rfl).1
    have y1 : w1.cell? ⟨γ 7, 1, none⟩ = some (.int .i64 (v3at (add (a0_0) (v3at (sub (0) (a0_0)) (sub (0) (a0_1)) (sub (0) (a0_2)) (sub (0) (a0_0)))) (add (a0_1) (v3at (sub (0) (a0_0)) (sub (0) (a0_1)) (sub (0) (a0_2)) (sub (0) (a0_1)))) (add (a0_2) (v3at (sub (0) (a0_0)) (sub (0) (a0_1)) (sub (0) (a0_2)) (sub (0) (a0_2)))) (add (a0_1) (v3at (sub (0) (a0_0)) (sub (0) (a0_1)) (sub (0) (a0_2)) (sub (0) (a0_1)))))) := (u3 1 _ rfl).1
    have y2 : w1.cell? ⟨γ 7, 2, none⟩ = some (.int .i64 (v3at (add (a0_0) (v3at (sub (0) (a0_0)) (sub (0) (a0_1)) (sub (0) (a0_2)) (sub (0) (a0_0)))) (add (a0_1) (v3at (sub (0) (a0_0)) (sub (0) (a0_1)) (sub (0) (a0_2)) (sub (0) (a0_1)))) (add (a0_2) (v3at (sub (0) (a0_0)) (sub (0) (a0_1)) (sub (0) (a0_2)) (sub (0) (a0_2)))) (add (a0_2) (v3at (sub (0) (a0_0)) (sub (0) (a0_1)) (sub (0) (a0_2)) (sub (0) (a0_2)))))) := (u3 2 _ rfl).1
    obtain ⟨e0, e1, e2⟩ := nothing (f := false) (f' := false) (a0 := a0_0) (a1 := a0_1) (a2 := a0_2) (step3_at _ _ _) (step3_at _ _ _)
    rw [e0] at y0
    rw [e1] at y1
    rw [e2] at y2
    have k0 : w1.cell? ⟨pa, 0, none⟩ = some (.int .i64 a0_0) := hG.fix (⟨pa, 0, none⟩, .int .i64 (a0_0)) (by simp [unitsr_plan])
    have k1 : w1.cell? ⟨pa, 1, none⟩ = some (.int .i64 a0_1) := hG.fix (⟨pa, 1, none⟩, .int .i64 (a0_1)) (by simp [unitsr_plan])
    have k2 : w1.cell? ⟨pa, 2, none⟩ = some (.int .i64 a0_2) := hG.fix (⟨pa, 2, none⟩, .int .i64 (a0_2)) (by simp [unitsr_plan])
    have HB : Hid (Below w.heap.size w w1) := by
      have h : Leaves ⟨pw, 0, none⟩ w8 w1 := hG.leaves
      have h2 := h.below w8.heap.size w8 (Below.refl _ _) (by show _ ≤ pw; rw [HW8.out]; exact qw) (Nat.le_refl _)
      rw [HW8.out] at h2
      exact h2
    rw [ha]
    clear ha hH hG hL hL' hLo u1 u2 u3 u4 hπ
    simp only [putAll, Act.put, List.setIfInBounds_toArray, List.set_cons_zero, List.set_cons_succ, shapeVal, unitsr_sh, Nat.zero_add, Nat.reduceAdd]
    obtain ⟨ps, hps⟩ : ∃ p, p = γ 7 := ⟨_, rfl⟩
    rw [← hps] at y0 y1 y2
    rw [← hps]
    clear hps
    have qs : pa < w1.heap.size := World.block_lt_of_cell? _ _ k0
    have qsw : w.heap.size ≤ w1.heap.size := HB.out.size
    obtain ⟨pu, hpu⟩ : ∃ p, p = w1.heap.size := ⟨_, rfl⟩
    have nb := new_after w1 (.cells #[.bool false] 27)
    have k0 := cell_after nb k0
    have k1 := cell_after nb k1
    have k2 := cell_after nb k2
    have HB2 : Hid _ := HB.out.alloc HB.out.size (.cells #[.bool false] 27)
    have c9 : (w1.alloc (.cells #[.bool false] 27)).cell? ⟨pu, 0, none⟩ = some (.bool false) := by rw [hpu]; simp
    have f9 : (w1.alloc (.cells #[.bool false] 27)).frozen? ⟨pu, 0, none⟩ = false := by rw [hpu]; simp
    have qu : w.heap.size ≤ pu := by omega
    have qpu : pa < pu := by omega
    clear nb
    go_wp2_with (fail)
    rw [← hpu]
    refine (vlen_law pu 0 false a0_0 a0_1 a0_2 _ c9 f9).mono ?_
    rintro e W3 ⟨n, g3, rfl, S3, Z⟩
    have HB3 : Hid _ := Z.out.below _ _ HB2.out qu HB2.out.size
    have k0 := Z.out.cellOf k0 (by show pa ≠ pu; omega)
    have k1 := Z.out.cellOf k1 (by show pa ≠ pu; omega)
    have k2 := Z.out.cellOf k2 (by show pa ≠ pu; omega)
    have c3 := Z.out.cell
    have f3 := Z.out.frozen
    clear Z hpu c9 f9 y0 y1 y2
    cases g3
    · have hn := step_one S3.out
      by_cases hlow : n < 4294967296
      · go_wp2_with (fail)
        go_ret
        exact ⟨rfl, HB3.out⟩
      · obtain ⟨u, v, s, l, r0, r1, r2, hl, l1, l2⟩ := unit_long hn (by omega)
        have HU : Hid _ := And.intro r0 (And.intro r1 (And.intro r2 hl))
        have HN : Hid _ := hn
        clear r0 r1 r2 hl hn S3
        go_wp2_with (fail)
        refine (vunit_law pu 0 false a0_0 a0_1 a0_2 _ c3 f3).mono ?_
        rintro e W4 ⟨v0, v1, v2, g4, rfl, S4, Z⟩
        obtain ⟨rfl, rfl, rfl, rfl⟩ : v0 = u ∧ v1 = v ∧ v2 = s ∧ g4 = false := by
          have h := S4.out
          rw [HN.out] at h
          simp only [Option.getD_some] at h
          rw [HU.out.1, HU.out.2.1, HU.out.2.2.1] at h
          exact h
        have HB4 : Hid _ := Z.out.below _ _ HB3.out qu HB3.out.size
        have c4 := Z.out.cell
        have f4 := Z.out.frozen
        clear Z S4
        go_wp2_with (fail)
        refine (vlen_law pu 0 false v0 v1 v2 _ c4 f4).mono ?_
        rintro e W5 ⟨l', g5, rfl, S5, Z⟩
        obtain ⟨rfl, rfl⟩ : l = l' ∧ g5 = false := by
          have h := S5.out
          rw [HU.out.2.2.2] at h
          exact ⟨h.1.symm, h.2⟩
        have HB5 : Hid _ := Z.out.below _ _ HB4.out qu HB4.out.size
        have c5 := Z.out.cell
        clear Z S5
        go_wp2_with (fail)
        go_ret
        exact ⟨ret_bool (by first | (simp; done) | (simp; omega)), HB5.out⟩
    · clear S3
      go_wp2_with (fail)
      go_ret
      exact ⟨rfl, HB3.out⟩

/-! ### The row's step, after the guide's template -/
set_option maxRecDepth 100000 in
theorem lifted (os : Os) (started : os.Started) (H : Type) (enc : TypeId × Value → H) :
    ReturnsInHanded {} Try.checked os 5 .any (Rows.vecUnitsSpec.pre6 enc Try.prog Try.f5 Rows.vecUnitsRow.domain false) (Rows.vecUnitsSpec.post enc Try.prog Try.f5 false true false false) := by
  refine returnsInHanded_of_change (C := Try.checked) own started (by kernel_rfl) Try.func5
    (ChangeSpec.witness6 (enc := enc) (C := Try.checked) false ⟨#[], #[.agg #[.int .i64 0, .int .i64 0, .int .i64 0], .agg #[.int .i64 0, .int .i64 0, .int .i64 0]], []⟩ 8 (by kernel_rfl) (by kernel_rfl) (by kernel_rfl) (by kernel_rfl)) ?_
  intro W base args ds gs before hval0 hW hcnd _
  have hval : ∀ (j : Nat) t v, Try.f5.params[j]? = some t → args[j]? = some v → Value.okWide Try.prog W .any base t v := hval0
  have hW' := hW
  obtain ⟨p, q, hA0, hV, rfl, hfz, hnd⟩ := hW
  have hA : DataW.TrodAll enc Try.prog W 0 (fun _ => true) true Try.f5.params.toList args.toList ds p := hA0
  rw [Try.params5] at hA hval
  obtain ⟨v0, vs0, d0, ds0, p0, q0, hargs, rfl, rfl, h0, r0⟩ := trodAll_cons hA
  obtain ⟨v1, vs1, d1, ds1, p1, q1, rfl, rfl, rfl, h1, r1⟩ := trodAll_cons r0
  obtain ⟨rfl, rfl, rfl⟩ := trodAll_nil r1
  obtain rfl : args = #[v0, v1] := by cases args; simp_all
  obtain ⟨rfl, rfl⟩ := trodVars_none hV
  obtain ⟨a0_0, a0_1, a0_2, rfl, rfl, rfl, w0_0, w0_1, w0_2⟩ := open_vec (hval 0 23 v0 rfl rfl) h0
  obtain ⟨a1_0, a1_1, a1_2, rfl, rfl, rfl, w1_0, w1_1, w1_2⟩ := open_vec (hval 1 23 v1 rfl rfl) h1
  clear hA0 hval0
  simp only [List.append_nil] at hW'
  refine (walk a0_0 a0_1 a0_2 a1_0 a1_1 a1_2 w0_0 w0_1 w0_2 w1_0 w1_1 w1_2 W).mono fun e W' ⟨he, bel⟩ => ?_
  subst he
  exact ⟨_, rfl, _, _, _, [], [], [], hW', trodAll_mk1 (shut_bool Try.underlying4 _), (trodAll_cons_mk (shut_vec w0_0 w0_1 w0_2) (trodAll_cons_mk (shut_vec w1_0 w1_1 w1_2) trodAll_mk0)), rfl, bel.frame _, fun h => by cases h⟩

theorem over : Rows.vecUnitsRow.holds Try.pinned (OpenSpec.ofChange Rows.vecUnitsSpec) :=
  OpenClaim.holds_of_wide 5 Try.f5 rfl rfl rfl rfl rfl rfl rfl ⟨rfl, rfl, rfl, rfl, rfl⟩ rfl rfl rfl rfl rfl (by kernel_rfl) Try.func5 (by kernel_rfl)
    (of_decide_eq_true (by kernel_rfl)) (by unfold Func.isWrapper; first | (rw [if_pos (by decide +kernel)]; kernel_rfl) | (rw [if_neg (by decide +kernel)]; exact ⟨rfl, rfl⟩))
    (fun os started H enc _ => lifted os started H enc)

end vecUnits

theorem vecUnits_holds : Rows.VecUnitsSaid := vecUnits.over
#print axioms vecUnits_holds
end Go.Proofs.Ytbjjpccaiciahab
