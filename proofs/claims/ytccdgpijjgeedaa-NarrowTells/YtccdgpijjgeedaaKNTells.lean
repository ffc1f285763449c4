/- Any two cores are told apart, measured and reached as the document says: for all cores (of any lists) and all directions; what is handed in stays. -/
import Derived.Test.YtccdgpijjgeedaaKNrW
import Derived.Test.YtccdgpijjgeedaaKOpenC
import Derived.Test.YtccdgpijjgeedaaKOpenP
import Derived.Test.YtccdgpijjgeedaaRows
import Derived.ProofKit
import Derived.OpenShut
namespace Go.Proofs.Ytccdgpijjgeedaa
namespace narrowTells
open Go.ChangeShapes Go.WideShapes Go.ChangeAt Go.RowKit Go.Shelf
set_option linter.unusedVariables false

theorem own : ownKnob Try.prog.godebug = none := by kernel_rfl
theorem laidOut : laidOutB Try.prog = true := by kernel_rfl

theorem walk (o11 : Option Addr) (L11 : List Pt) (c11 : Nat) (o12 : Option Addr) (L12 : List Pt) (c12 : Nat) (o13 : Option Addr) (L13 : List Pt) (c13 : Nat) (r1 : Int) (o21 : Option Addr) (L21 : List Pt) (c21 : Nat) (o22 : Option Addr) (L22 : List Pt) (c22 : Nat) (o23 : Option Addr) (L23 : List Pt) (c23 : Nat) (r2 : Int) (tx ty tz : Int) (w0 : World) (h11 : Lies w0 (.slice o11 L11.length c11) L11) (h12 : Lies w0 (.slice o12 L12.length c12) L12) (h13 : Lies w0 (.slice o13 L13.length c13) L13) (n11 : L11.length < 140737488355328) (n12 : L12.length < 140737488355328) (n13 : L13.length < 140737488355328) (h21 : Lies w0 (.slice o21 L21.length c21) L21) (h22 : Lies w0 (.slice o22 L22.length c22) L22) (h23 : Lies w0 (.slice o23 L23.length c23) L23) (n21 : L21.length < 140737488355328) (n22 : L22.length < 140737488355328) (n23 : L23.length < 140737488355328) (b0 : -9223372036854775808 ≤ tx ∧ tx ≤ 9223372036854775807) (b1 : -9223372036854775808 ≤ ty ∧ ty ≤ 9223372036854775807) (b2 : -9223372036854775808 ≤ tz ∧ tz ≤ 9223372036854775807) :
    Calls Try.prog 3 #[.agg #[.slice o11 L11.length c11, .slice o12 L12.length c12, .slice o13 L13.length c13, .int .i64 r1], .agg #[.slice o21 L21.length c21, .slice o22 L22.length c22, .slice o23 L23.length c23, .int .i64 r2], .agg #[.int .i64 tx, .int .i64 ty, .int .i64 tz]] w0 fun e w' => e = .returned (.bool true) ∧ Below w0.heap.size w0 w' :=
  ntells_any L11 L12 L13 L21 L22 L23 r1 r2 ⟨tx, ty, tz⟩ _ _ _ _ _ _ w0 h11 h12 h13 h21 h22 h23 n11 n12 n21 n22

/-! ### The row's step, after the guide's template -/
set_option maxRecDepth 100000 in
theorem lifted (os : Os) (started : os.Started) (H : Type) (enc : TypeId × Value → H) :
    ReturnsInHanded {} Try.checked os 3 .any (Rows.narrowTellsSpec.pre6 enc Try.prog Try.f3 Rows.narrowTellsRow.domain false) (Rows.narrowTellsSpec.post enc Try.prog Try.f3 false true false false) := by
  refine returnsInHanded_of_change_sized (C := Try.checked) own started (by kernel_rfl) Try.func3
    (ChangeSpec.witness6 (enc := enc) (C := Try.checked) false ⟨#[], #[.agg #[.slice none 0 0, .slice none 0 0, .slice none 0 0, .int .i64 0], .agg #[.slice none 0 0, .slice none 0 0, .slice none 0 0, .int .i64 0], .agg #[.int .i64 0, .int .i64 0, .int .i64 0]], []⟩ 8 (by kernel_rfl) (by kernel_rfl) (by kernel_rfl) (by kernel_rfl)) ?_
  intro W base args ds gs before hval0 hW hcnd hwt0 _
  have hval : ∀ (j : Nat) t v, Try.f3.params[j]? = some t → args[j]? = some v → Value.okWide Try.prog W .any base t v := hval0
  have hW' := hW
  obtain ⟨p, q, hA0, hV, rfl, hfz, hnd⟩ := hW
  have hA : DataW.TrodAll enc Try.prog W 0 (fun _ => true) true Try.f3.params.toList args.toList ds p := hA0
  rw [Try.params3] at hA hval
  have hwt : ∀ n ∈ DataW.weightsEach Try.prog (Try.f3.params.toList ++ Rows.narrowTellsSpec.plain.varTypes Try.prog) (ds ++ gs), n ≤ reachBytes := fun n hn => by have h9 := List.all_eq_true.1 hwt0 n hn; simpa using h9
  rw [Try.params3] at hwt
  clear hwt0
  obtain ⟨v0, vs0, d0, ds0, p0, q0, hargs, rfl, rfl, h0, r0⟩ := trodAll_cons hA
  obtain ⟨v1, vs1, d1, ds1, p1, q1, rfl, rfl, rfl, h1, r1⟩ := trodAll_cons r0
  obtain ⟨v2, vs2, d2, ds2, p2, q2, rfl, rfl, rfl, h2, r2⟩ := trodAll_cons r1
  obtain ⟨rfl, rfl, rfl⟩ := trodAll_nil r2
  obtain rfl : args = #[v0, v1, v2] := by cases args; simp_all
  obtain ⟨rfl, rfl⟩ := trodVars_none hV
  have k0 := h0
  have lt0 : ∀ x ∈ p0, x.block < W.heap.size := by obtain ⟨m, hm⟩ := k0; exact DataW.trod_lt m _ _ _ hm
  obtain ⟨oc0, Lc0, cc0, od0, Ld0, cd0, oe0, Le0, ce0, rc0, rfl, hc0, hd0, he0, hm0, hn0, ho0⟩ := open_core2 (hval 0 24 v0 rfl rfl) h0 (fun n hn => hwt n (DataW.weights_mem_each (j := 0) (t := 24) rfl rfl n hn))
  have k1 := h1
  have lt1 : ∀ x ∈ p1, x.block < W.heap.size := by obtain ⟨m, hm⟩ := k1; exact DataW.trod_lt m _ _ _ hm
  obtain ⟨oc1, Lc1, cc1, od1, Ld1, cd1, oe1, Le1, ce1, rc1, rfl, hc1, hd1, he1, hm1, hn1, ho1⟩ := open_core2 (hval 1 24 v1 rfl rfl) h1 (fun n hn => hwt n (DataW.weights_mem_each (j := 1) (t := 24) rfl rfl n hn))
  have k2 := h2
  have lt2 : ∀ x ∈ p2, x.block < W.heap.size := by obtain ⟨m, hm⟩ := k2; exact DataW.trod_lt m _ _ _ hm
  obtain ⟨tx, ty, tz, rfl, _, _, nx, ny, nz⟩ := open_point (hval 2 26 v2 rfl rfl) h2
  have btx_ := bounds_i64 nx
  have bty_ := bounds_i64 ny
  have btz_ := bounds_i64 nz
  clear hA0 hval0
  refine (walk oc0 Lc0 cc0 od0 Ld0 cd0 oe0 Le0 ce0 rc0 oc1 Lc1 cc1 od1 Ld1 cd1 oe1 Le1 ce1 rc1 tx ty tz W hc0 hd0 he0 hm0 hn0 ho0 hc1 hd1 he1 hm1 hn1 ho1 (by omega) (by omega) (by omega)).mono fun e W' ⟨he, bel⟩ => ?_
  subst he
  exact ⟨_, rfl, _, _, _, [], _, [], hW', trodAll_mk1 (shut_bool Try.underlying4 _), (trodAll_cons_mk (Below.trod laidOut (by kernel_rfl) (of_decide_eq_true (by kernel_rfl)) k0 bel lt0) (trodAll_cons_mk (Below.trod laidOut (by kernel_rfl) (of_decide_eq_true (by kernel_rfl)) k1 bel lt1) (trodAll_cons_mk (Below.trod laidOut (by kernel_rfl) (of_decide_eq_true (by kernel_rfl)) k2 bel lt2) trodAll_mk0))), rfl, bel.frame _, fun h => by cases h⟩

theorem over : Rows.narrowTellsRow.holds Try.pinned (OpenSpec.ofChange Rows.narrowTellsSpec) :=
  OpenClaim.holds_of_wide 3 Try.f3 rfl rfl rfl rfl rfl rfl rfl ⟨rfl, rfl, rfl, rfl, rfl⟩ rfl rfl rfl rfl rfl (by kernel_rfl) Try.func3 (by kernel_rfl)
    (of_decide_eq_true (by kernel_rfl)) (by unfold Func.isWrapper; first | (rw [if_pos (by decide +kernel)]; kernel_rfl) | (rw [if_neg (by decide +kernel)]; exact ⟨rfl, rfl⟩))
    (fun os started H enc _ => lifted os started H enc)

end narrowTells

theorem narrowTells_holds : Rows.NarrowTellsSaid := narrowTells.over
#print axioms narrowTells_holds
end Go.Proofs.Ytccdgpijjgeedaa
