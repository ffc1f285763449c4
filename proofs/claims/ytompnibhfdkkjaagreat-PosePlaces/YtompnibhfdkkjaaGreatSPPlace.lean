/- Cores at poses are the document's own, for every core (of any lists), every pose and every way; what is handed in stays. -/
import Derived.Test.YtompnibhfdkkjaaGreatSPPlace26
import Derived.Test.YtompnibhfdkkjaaGreatSPPlace27
import Derived.Test.YtompnibhfdkkjaaGreatRows
import Derived.ProofKit
import Derived.OpenShut
namespace Go.Proofs.YtompnibhfdkkjaaGreat
namespace posePlaces
open Go.ChangeShapes Go.WideShapes Go.ChangeAt Go.RowKit Go.Shelf
set_option linter.unusedVariables false

theorem own : ownKnob Tryz.prog.godebug = none := by kernel_rfl
theorem laidOut : laidOutB Tryz.prog = true := by kernel_rfl

theorem walk (o1 : Option Addr) (L1 : List Pt) (c1 : Nat) (o2 : Option Addr) (L2 : List Pt) (c2 : Nat) (o3 : Option Addr) (L3 : List Pt) (c3 : Nat) (rc : Int) (y0 y1 y2 y3 y4 y5 y6 : Int) (tx ty tz : Int) (w0 : World) (h1 : Lies w0 (.slice o1 L1.length c1) L1) (h2 : Lies w0 (.slice o2 L2.length c2) L2) (h3 : Lies w0 (.slice o3 L3.length c3) L3) (n1 : L1.length < 140737488355328) (n2 : L2.length < 140737488355328) (n3 : L3.length < 140737488355328) (b0 : -9223372036854775808 ≤ tx ∧ tx ≤ 9223372036854775807) (b1 : -9223372036854775808 ≤ ty ∧ ty ≤ 9223372036854775807) (b2 : -9223372036854775808 ≤ tz ∧ tz ≤ 9223372036854775807) :
    Calls Tryz.prog 3 #[.agg #[.slice o1 L1.length c1, .slice o2 L2.length c2, .slice o3 L3.length c3, .int .i64 rc], .agg #[.int .i64 y0, .int .i64 y1, .int .i64 y2, .int .i64 y3, .int .i64 y4, .int .i64 y5, .int .i64 y6], .agg #[.int .i64 tx, .int .i64 ty, .int .i64 tz]] w0 fun e w' => e = .returned (.bool true) ∧ Below w0.heap.size w0 w' :=
  places_any ⟨y0, y1, y2⟩ ⟨y3, y4, y5, y6⟩ ⟨tx, ty, tz⟩ L1 L2 L3 rc _ _ _ w0 h1 h2 h3 (by omega)

/-! ### The row's step, after the guide's template -/
set_option maxRecDepth 100000 in
theorem lifted (os : Os) (started : os.Started) (H : Type) (enc : TypeId × Value → H) :
    ReturnsInHanded {} Tryz.checked os 3 .any (Rows.posePlacesSpec.pre6 enc Tryz.prog Tryz.f3 Rows.posePlacesRow.domain false) (Rows.posePlacesSpec.post enc Tryz.prog Tryz.f3 false true false false) := by
  refine returnsInHanded_of_change_sized (C := Tryz.checked) own started (by kernel_rfl) Tryz.func3
    (ChangeSpec.witness6 (enc := enc) (C := Tryz.checked) false ⟨#[], #[.agg #[.slice none 0 0, .slice none 0 0, .slice none 0 0, .int .i64 0], .agg #[.int .i64 0, .int .i64 0, .int .i64 0, .int .i64 0, .int .i64 0, .int .i64 0, .int .i64 0], .agg #[.int .i64 0, .int .i64 0, .int .i64 0]], []⟩ 8 (by kernel_rfl) (by kernel_rfl) (by kernel_rfl) (by kernel_rfl)) ?_
  intro W base args ds gs before hval0 hW hcnd hwt0 _
  have hval : ∀ (j : Nat) t v, Tryz.f3.params[j]? = some t → args[j]? = some v → Value.okWide Tryz.prog W .any base t v := hval0
  have hW' := hW
  obtain ⟨p, q, hA0, hV, rfl, hfz, hnd⟩ := hW
  have hA : DataW.TrodAll enc Tryz.prog W 0 (fun _ => true) true Tryz.f3.params.toList args.toList ds p := hA0
  rw [Tryz.params3] at hA hval
  have hwt : ∀ n ∈ DataW.weightsEach Tryz.prog (Tryz.f3.params.toList ++ Rows.posePlacesSpec.plain.varTypes Tryz.prog) (ds ++ gs), n ≤ reachBytes := fun n hn => by have h9 := List.all_eq_true.1 hwt0 n hn; simpa using h9
  rw [Tryz.params3] at hwt
  clear hwt0
  obtain ⟨v0, vs0, d0, ds0, p0, q0, hargs, rfl, rfl, h0, r0⟩ := trodAll_cons hA
  obtain ⟨v1, vs1, d1, ds1, p1, q1, rfl, rfl, rfl, h1, r1⟩ := trodAll_cons r0
  obtain ⟨v2, vs2, d2, ds2, p2, q2, rfl, rfl, rfl, h2, r2⟩ := trodAll_cons r1
  obtain ⟨rfl, rfl, rfl⟩ := trodAll_nil r2
  obtain rfl : args = #[v0, v1, v2] := by cases args; simp_all
  obtain ⟨rfl, rfl⟩ := trodVars_none hV
  have k0 := h0
  have lt0 : ∀ x ∈ p0, x.block < W.heap.size := by obtain ⟨m, hm⟩ := k0; exact DataW.trod_lt m _ _ _ hm
  obtain ⟨oc0, Lc0, cc0, od0, Ld0, cd0, oe0, Le0, ce0, rc0, rfl, hc0, hd0, he0, hm0, hn0, ho0⟩ := open_core2 (hval 0 24 v0 rfl rfl) h0 (fun n hn => hwt n (DataW.weights_mem_each (j := 0) (t := 24) rfl rfl n hn))
  have k1 := h1
  have lt1 : ∀ x ∈ p1, x.block < W.heap.size := by obtain ⟨m, hm⟩ := k1; exact DataW.trod_lt m _ _ _ hm
  obtain ⟨y0, y1, y2, y3, y4, y5, y6, rfl, n0, n1, n2, n3, n4, n5, n6⟩ := open_pose (hval 1 30 v1 rfl rfl) h1
  have k2 := h2
  have lt2 : ∀ x ∈ p2, x.block < W.heap.size := by obtain ⟨m, hm⟩ := k2; exact DataW.trod_lt m _ _ _ hm
  obtain ⟨tx, ty, tz, rfl, _, _, nx, ny, nz⟩ := open_point (hval 2 31 v2 rfl rfl) h2
  have btx_ := bounds_i64 nx
  have bty_ := bounds_i64 ny
  have btz_ := bounds_i64 nz
  clear hA0 hval0
  refine (walk oc0 Lc0 cc0 od0 Ld0 cd0 oe0 Le0 ce0 rc0 y0 y1 y2 y3 y4 y5 y6 tx ty tz W hc0 hd0 he0 hm0 hn0 ho0 (by omega) (by omega) (by omega)).mono fun e W' ⟨he, bel⟩ => ?_
  subst he
  exact ⟨_, rfl, _, _, _, [], _, [], hW', trodAll_mk1 (shut_bool Tryz.underlying4 _), (trodAll_cons_mk (Below.trod laidOut (by kernel_rfl) (of_decide_eq_true (by kernel_rfl)) k0 bel lt0) (trodAll_cons_mk (Below.trod laidOut (by kernel_rfl) (of_decide_eq_true (by kernel_rfl)) k1 bel lt1) (trodAll_cons_mk (Below.trod laidOut (by kernel_rfl) (of_decide_eq_true (by kernel_rfl)) k2 bel lt2) trodAll_mk0))), rfl, bel.frame _, fun h => by cases h⟩

theorem over : Rows.posePlacesRow.holds Tryz.pinned (OpenSpec.ofChange Rows.posePlacesSpec) :=
  OpenClaim.holds_of_wide 3 Tryz.f3 rfl rfl rfl rfl rfl rfl rfl ⟨rfl, rfl, rfl, rfl, rfl⟩ rfl rfl rfl rfl rfl (by kernel_rfl) Tryz.func3 (by kernel_rfl)
    (of_decide_eq_true (by kernel_rfl)) (by unfold Func.isWrapper; first | (rw [if_pos (by decide +kernel)]; kernel_rfl) | (rw [if_neg (by decide +kernel)]; exact ⟨rfl, rfl⟩))
    (fun os started H enc _ => lifted os started H enc)

end posePlaces

theorem posePlaces_holds : Rows.PosePlacesSaid := posePlaces.over
#print axioms posePlaces_holds
end Go.Proofs.YtompnibhfdkkjaaGreat
