/- A work's flag stays once it is set, and changes no number: true for all scripts of calls. -/
import Derived.Test.YtppiglecnnjcmaaScrA
import Derived.Test.YtppiglecnnjcmaaRows
import Derived.ProofKit
import Derived.OpenShut
import Derived.ShutString
import Derived.ChangeOld
import Derived.Deep.Slices
namespace Go.Proofs.Ytppiglecnnjcmaa
namespace fxScripts
open Go.ChangeShapes Go.WideShapes Go.ChangeAt Go.RowKit Fx
set_option linter.unusedVariables false

set_option maxRecDepth 100000 in
set_option maxHeartbeats 8000000 in
theorem walk (a0 : Option Addr) (len0 cap0 : Nat) (w : World) (w0 : Trips w a0 len0) (hlen : len0 ≤ 9223372036854775807) :
    Calls Try.prog 6 #[.slice a0 len0 cap0] w fun e w' => e = .returned (.bool true) ∧ Below w.heap.size w w' := by
  have AW : Hid _ := awake_any w
  have HT : Hid _ := w0
  clear w0
  go_enter Try.func6, Try.ntmps6
  go_wp2_with (fail)
  refine Calls.mono AW.out ?_
  rintro e V ⟨rfl, hb0⟩
  have HB0 : Hid _ := hb0
  have hs0 : w.heap.size ≤ V.heap.size := hb0.size
  clear hb0 AW
  go_wp2_with (fail)
  go_loopw [5, 6] (fun s i wr => ∃ (k : Nat) (g : Bool), k ≤ len0 ∧ i = .int .i64 k ∧ s = .bool g ∧ wr.cell? ⟨V.heap.size, 0, none⟩ = some (.bool g) ∧ wr.frozen? ⟨V.heap.size, 0, none⟩ = false ∧ V.heap.size < wr.heap.size ∧ Hid (Below w.heap.size w wr)) (fun _ i _ => len0 - (intOf i).toNat)
  case atStart => exact ⟨0, false, Nat.zero_le _, rfl, rfl, by simp, by simp, by simp, HB0.out.alloc hs0 _⟩
  case round =>
    obtain ⟨k, g, hk, rfl, rfl, cp, fp, hsz, HB⟩ := hrel
    by_cases hlt : k < len0
    · rcases HT.out with h | ⟨b, off, f, rfl, hf⟩
      · omega
      obtain ⟨e0, e1, e2⟩ := hf k hlt
      have d0 := cell_after HB.out e0
      have d1 := cell_after HB.out e1
      have d2 := cell_after HB.out e2
      obtain ⟨x, ex⟩ : ∃ x, f k 0 = x := ⟨_, rfl⟩
      obtain ⟨y, ey⟩ : ∃ x, f k 1 = x := ⟨_, rfl⟩
      obtain ⟨z, ez⟩ : ∃ x, f k 2 = x := ⟨_, rfl⟩
      rw [ex] at d0
      rw [ey] at d1
      rw [ez] at d2
      clear e0 e1 e2 ex ey ez hf HT
      have cw := cell_after (new_after wr (.cells #[.bool false] 25)) cp
      have fw := frozen_after (new_after wr (.cells #[.bool false] 25)) cp fp
      have hm5 : (k : Int) % 5 = 0 ∨ (k : Int) % 5 = 1 ∨ (k : Int) % 5 = 2 ∨ (k : Int) % 5 = 3 ∨ (k : Int) % 5 = 4 := by omega
      rcases hm5 with hm | hm | hm | hm | hm
      · go_wp2_with (fail)
        refine (add_law V.heap.size 0 g _ _ _ cw fw).mono ?_
        rintro e W1 ⟨v1, g1, rfl, S1, A1⟩
        have c1 := A1.out.cell
        have o1 := A1.out.cellOf (q := ⟨wr.heap.size, 0, none⟩) (v := .bool false) (by simp) (by simp; omega)
        have p1 := A1.out.frozenOf (q := ⟨wr.heap.size, 0, none⟩) (v := .bool false) (by simp) (by simp) (by simp; omega)
        have HB1 : Hid _ := A1.out.on (HB.out.alloc HB.out.size _) hs0
        have s1 := A1.out.size
        have f1 := A1.out.frozen
        go_wp2_with (fail)
        refine (add_law wr.heap.size 0 false _ _ _ o1 p1).mono ?_
        rintro e W2 ⟨v2, g2, rfl, S2, A2⟩
        obtain rfl : v1 = v2 := by rw [S1.out.1, S2.out.1]
        have hg1 : g1 = (g || g2) := by rw [S1.out.2, S2.out.2]; rfl
        have c2 := A2.out.cellOf c1 (by simp; omega)
        have f2 := A2.out.frozenOf c1 f1 (by simp; omega)
        have o2 := A2.out.cell
        have HB2 : Hid _ := A2.out.on HB1.out (by have := HB.out.size; simp; omega)
        have s2 : V.heap.size < W2.heap.size := by have := A2.out.size; simp at s1; omega
        clear S1 S2 A1 A2 o1 p1 c1 f1 HB1 s1 cp fp d0 d1 d2 cw fw hm
        subst hg1
        cases g
        · simp only [Bool.false_or] at c2
          go_wp2_with (fail)
          go_roundw
          case rel => exact ⟨k + 1, g2, by omega, by go_num, rfl, c2, f2, s2, HB2⟩
          case measure => simp [intOf]; omega
        · simp only [Bool.true_or] at c2
          go_wp2_with (fail)
          go_roundw
          case rel => exact ⟨k + 1, true, by omega, by go_num, rfl, c2, f2, s2, HB2⟩
          case measure => simp [intOf]; omega
      · go_wp2_with (fail)
        refine (mul_law V.heap.size 0 g _ _ _ cw fw).mono ?_
        rintro e W1 ⟨v1, g1, rfl, S1, A1⟩
        have c1 := A1.out.cell
        have o1 := A1.out.cellOf (q := ⟨wr.heap.size, 0, none⟩) (v := .bool false) (by simp) (by simp; omega)
        have p1 := A1.out.frozenOf (q := ⟨wr.heap.size, 0, none⟩) (v := .bool false) (by simp) (by simp) (by simp; omega)
        have HB1 : Hid _ := A1.out.on (HB.out.alloc HB.out.size _) hs0
        have s1 := A1.out.size
        have f1 := A1.out.frozen
        go_wp2_with (fail)
        refine (mul_law wr.heap.size 0 false _ _ _ o1 p1).mono ?_
        rintro e W2 ⟨v2, g2, rfl, S2, A2⟩
        obtain rfl : v1 = v2 := by rw [S1.out.1, S2.out.1]
        have hg1 : g1 = (g || g2) := by rw [S1.out.2, S2.out.2]; rfl
        have c2 := A2.out.cellOf c1 (by simp; omega)
        have f2 := A2.out.frozenOf c1 f1 (by simp; omega)
        have o2 := A2.out.cell
        have HB2 : Hid _ := A2.out.on HB1.out (by have := HB.out.size; simp; omega)
        have s2 : V.heap.size < W2.heap.size := by have := A2.out.size; simp at s1; omega
        clear S1 S2 A1 A2 o1 p1 c1 f1 HB1 s1 cp fp d0 d1 d2 cw fw hm
        subst hg1
        cases g
        · simp only [Bool.false_or] at c2
          go_wp2_with (fail)
          go_roundw
          case rel => exact ⟨k + 1, g2, by omega, by go_num, rfl, c2, f2, s2, HB2⟩
          case measure => simp [intOf]; omega
        · simp only [Bool.true_or] at c2
          go_wp2_with (fail)
          go_roundw
          case rel => exact ⟨k + 1, true, by omega, by go_num, rfl, c2, f2, s2, HB2⟩
          case measure => simp [intOf]; omega
      · go_wp2_with (fail)
        refine (ratio_law V.heap.size 0 g _ _ _ _ cw fw).mono ?_
        rintro e W1 ⟨v1, g1, rfl, S1, A1⟩
        have c1 := A1.out.cell
        have o1 := A1.out.cellOf (q := ⟨wr.heap.size, 0, none⟩) (v := .bool false) (by simp) (by simp; omega)
        have p1 := A1.out.frozenOf (q := ⟨wr.heap.size, 0, none⟩) (v := .bool false) (by simp) (by simp) (by simp; omega)
        have HB1 : Hid _ := A1.out.on (HB.out.alloc HB.out.size _) hs0
        have s1 := A1.out.size
        have f1 := A1.out.frozen
        go_wp2_with (fail)
        refine (ratio_law wr.heap.size 0 false _ _ _ _ o1 p1).mono ?_
        rintro e W2 ⟨v2, g2, rfl, S2, A2⟩
        obtain rfl : v1 = v2 := by rw [S1.out.1, S2.out.1]
        have hg1 : g1 = (g || g2) := by rw [S1.out.2, S2.out.2]; rfl
        have c2 := A2.out.cellOf c1 (by simp; omega)
        have f2 := A2.out.frozenOf c1 f1 (by simp; omega)
        have o2 := A2.out.cell
        have HB2 : Hid _ := A2.out.on HB1.out (by have := HB.out.size; simp; omega)
        have s2 : V.heap.size < W2.heap.size := by have := A2.out.size; simp at s1; omega
        clear S1 S2 A1 A2 o1 p1 c1 f1 HB1 s1 cp fp d0 d1 d2 cw fw hm
        subst hg1
        cases g
        · simp only [Bool.false_or] at c2
          go_wp2_with (fail)
          go_roundw
          case rel => exact ⟨k + 1, g2, by omega, by go_num, rfl, c2, f2, s2, HB2⟩
          case measure => simp [intOf]; omega
        · simp only [Bool.true_or] at c2
          go_wp2_with (fail)
          go_roundw
          case rel => exact ⟨k + 1, true, by omega, by go_num, rfl, c2, f2, s2, HB2⟩
          case measure => simp [intOf]; omega
      · go_wp2_with (fail)
        have NW := norm3_law V.heap.size 0 g x y z _ cw fw
        simp only [World.size_alloc] at NW
        have HN : Hid _ := NW
        clear NW
        refine Calls.mono HN.out ?_
        rintro e W1 ⟨v1, g1, rfl, S1, A1⟩
        have c1 := A1.out.cell
        have o1 := A1.out.cellOf (q := ⟨wr.heap.size, 0, none⟩) (v := .bool false) (by simp) (by simp; omega)
        have p1 := A1.out.frozenOf (q := ⟨wr.heap.size, 0, none⟩) (v := .bool false) (by simp) (by simp) (by simp; omega)
        have HB1 : Hid _ := A1.out.on (HB.out.alloc HB.out.size _) hs0
        have s1 := A1.out.size
        have f1 := A1.out.frozen
        go_wp2_with (fail)
        refine (norm3_law wr.heap.size 0 false _ _ _ _ o1 p1).mono ?_
        rintro e W2 ⟨v2, g2, rfl, S2, A2⟩
        obtain rfl : v1 = v2 := by rw [S1.out.1, S2.out.1]
        have hg1 : g1 = (g || g2) := by rw [S1.out.2, S2.out.2]; rfl
        have c2 := A2.out.cellOf c1 (by simp; omega)
        have f2 := A2.out.frozenOf c1 f1 (by simp; omega)
        have o2 := A2.out.cell
        have HB2 : Hid _ := A2.out.on HB1.out (by have := HB.out.size; simp; omega)
        have s2 : V.heap.size < W2.heap.size := by have := A2.out.size; simp at s1; omega
        clear S1 S2 A1 A2 o1 p1 c1 f1 HB1 s1 cp fp d0 d1 d2 cw fw hm
        subst hg1
        cases g
        · simp only [Bool.false_or] at c2
          go_wp2_with (fail)
          go_roundw
          case rel => exact ⟨k + 1, g2, by omega, by go_num, rfl, c2, f2, s2, HB2⟩
          case measure => simp [intOf]; omega
        · simp only [Bool.true_or] at c2
          go_wp2_with (fail)
          go_roundw
          case rel => exact ⟨k + 1, true, by omega, by go_num, rfl, c2, f2, s2, HB2⟩
          case measure => simp [intOf]; omega
      · go_wp2_with (fail)
        refine (root_law V.heap.size 0 g _ _ cw fw).mono ?_
        rintro e W1 ⟨v1, g1, rfl, S1, A1⟩
        have c1 := A1.out.cell
        have o1 := A1.out.cellOf (q := ⟨wr.heap.size, 0, none⟩) (v := .bool false) (by simp) (by simp; omega)
        have p1 := A1.out.frozenOf (q := ⟨wr.heap.size, 0, none⟩) (v := .bool false) (by simp) (by simp) (by simp; omega)
        have HB1 : Hid _ := A1.out.on (HB.out.alloc HB.out.size _) hs0
        have s1 := A1.out.size
        have f1 := A1.out.frozen
        go_wp2_with (fail)
        refine (root_law wr.heap.size 0 false _ _ o1 p1).mono ?_
        rintro e W2 ⟨v2, g2, rfl, S2, A2⟩
        obtain rfl : v1 = v2 := by rw [S1.out.1, S2.out.1]
        have hg1 : g1 = (g || g2) := by rw [S1.out.2, S2.out.2]; rfl
        have c2 := A2.out.cellOf c1 (by simp; omega)
        have f2 := A2.out.frozenOf c1 f1 (by simp; omega)
        have o2 := A2.out.cell
        have HB2 : Hid _ := A2.out.on HB1.out (by have := HB.out.size; simp; omega)
        have s2 : V.heap.size < W2.heap.size := by have := A2.out.size; simp at s1; omega
        clear S1 S2 A1 A2 o1 p1 c1 f1 HB1 s1 cp fp d0 d1 d2 cw fw hm
        subst hg1
        cases g
        · simp only [Bool.false_or] at c2
          go_wp2_with (fail)
          go_roundw
          case rel => exact ⟨k + 1, g2, by omega, by go_num, rfl, c2, f2, s2, HB2⟩
          case measure => simp [intOf]; omega
        · simp only [Bool.true_or] at c2
          go_wp2_with (fail)
          go_roundw
          case rel => exact ⟨k + 1, true, by omega, by go_num, rfl, c2, f2, s2, HB2⟩
          case measure => simp [intOf]; omega
    · clear HT
      go_wp2_with (fail)
      go_ret
      exact ⟨rfl, HB.out⟩

/-! ### The row's step, after the guide's template -/
set_option maxRecDepth 100000 in
theorem lifted (os : Os) (started : os.Started) (H : Type) (enc : TypeId × Value → H) :
    ReturnsInHanded {} Try.checked os 6 .any (Rows.fxScriptsSpec.pre6 enc Try.prog Try.f6 Rows.fxScriptsRow.domain false) (Rows.fxScriptsSpec.post enc Try.prog Try.f6 false true false false) := by
  refine returnsInHanded_of_change (C := Try.checked) own started (by kernel_rfl) Try.func6
    (ChangeSpec.witness6 (enc := enc) (C := Try.checked) false ⟨#[], #[.slice none 0 0], []⟩ 8 (by kernel_rfl) (by kernel_rfl) (by kernel_rfl) (by kernel_rfl)) ?_
  intro W base args ds gs before hval0 hW hcnd _
  have hval : ∀ (j : Nat) t v, Try.f6.params[j]? = some t → args[j]? = some v → Value.okWide Try.prog W .any base t v := hval0
  have hW' := hW
  obtain ⟨p, q, hA0, hV, rfl, hfz, hnd⟩ := hW
  have hA : DataW.TrodAll enc Try.prog W 0 (fun _ => true) true Try.f6.params.toList args.toList ds p := hA0
  rw [Try.params6] at hA hval
  obtain ⟨v0, vs0, d0, ds0, p0, q0, hargs, rfl, rfl, h0, r0⟩ := trodAll_cons hA
  obtain ⟨rfl, rfl, rfl⟩ := trodAll_nil r0
  obtain rfl : args = #[v0] := by cases args; simp_all
  obtain ⟨rfl, rfl⟩ := trodVars_none hV
  obtain ⟨a0, len0, cap0, rfl⟩ := okWide_slice Try.underlying38 (hval 0 38 v0 rfl rfl)
  have k0 := h0
  have lt0 : ∀ x ∈ p0, x.block < W.heap.size := by obtain ⟨m, hm⟩ := k0; exact DataW.trod_lt m _ _ _ hm
  obtain ⟨w0, hl0⟩ : Trips W a0 len0 ∧ len0 ≤ 9223372036854775807 := by
    obtain ⟨fuel, hf⟩ := h0
    exact trips_of (by simpa [Value.cells] using hf)
  clear hA0 hval0
  refine (walk a0 len0 cap0 W w0 hl0).mono fun e W' ⟨he, bel⟩ => ?_
  subst he
  exact ⟨_, rfl, _, _, _, [], _, [], hW', trodAll_mk1 (shut_bool Try.underlying4 _), (trodAll_cons_mk (Below.trod laidOut (by kernel_rfl) (of_decide_eq_true (by kernel_rfl)) k0 bel lt0) trodAll_mk0), rfl, bel.frame _, fun h => by cases h⟩

theorem over : Rows.fxScriptsRow.holds Try.pinned (OpenSpec.ofChange Rows.fxScriptsSpec) :=
  OpenClaim.holds_of_wide 6 Try.f6 rfl rfl rfl rfl rfl rfl rfl ⟨rfl, rfl, rfl, rfl, rfl⟩ rfl rfl rfl rfl rfl (by kernel_rfl) Try.func6 (by kernel_rfl)
    (of_decide_eq_true (by kernel_rfl)) (by unfold Func.isWrapper; first | (rw [if_pos (by decide +kernel)]; kernel_rfl) | (rw [if_neg (by decide +kernel)]; exact ⟨rfl, rfl⟩))
    (fun os started H enc _ => lifted os started H enc)

end fxScripts

theorem fxScripts_holds : Rows.FxScriptsSaid := fxScripts.over
#print axioms fxScripts_holds
end Go.Proofs.Ytppiglecnnjcmaa
