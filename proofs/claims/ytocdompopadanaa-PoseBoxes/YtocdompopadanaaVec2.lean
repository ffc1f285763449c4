/- Package vec's sums, differences, products, lengths and directions, as laws. -/
import Derived.Test.YtocdompopadanaaEach
import Derived.Test.YtocdompopadanaaVec1
namespace Go.Proofs.Ytocdompopadanaa
open Go.RowKit Fx
set_option linter.unusedVariables false

/-- From a flag f, three numbers that are told together. -/
def Step3 (f : Bool) (a b c : Option Int) (x y z : Int) (g : Bool) : Prop :=
  x = cond (a.isNone || b.isNone || c.isNone) 0 (a.getD 0) ∧ y = cond (a.isNone || b.isNone || c.isNone) 0 (b.getD 0) ∧ z = cond (a.isNone || b.isNone || c.isNone) 0 (c.getD 0) ∧ g = (f || (a.isNone || b.isNone || c.isNone))
theorem step3_of {f g : Bool} {a b c : Option Int} (h : g = (false || (a.isNone || b.isNone || c.isNone))) : Step3 f a b c (cond g 0 (a.getD 0)) (cond g 0 (b.getD 0)) (cond g 0 (c.getD 0)) (f || g) := by
  rw [Bool.false_or] at h
  subst h
  exact ⟨rfl, rfl, rfl, rfl⟩
/-- Told for good: all three are there. -/
theorem step3_some {f : Bool} {a b c : Option Int} {x y z : Int} (h : Step3 f a b c x y z false) : f = false ∧ a = some x ∧ b = some y ∧ c = some z := by
  obtain ⟨h1, h2, h3, h4⟩ := h
  have h5 : f = false ∧ (a.isNone || b.isNone || c.isNone) = false := by simpa using h4.symm
  rw [h5.2] at h1 h2 h3
  obtain ⟨h6, h7⟩ := h5
  simp only [Bool.or_eq_false_iff] at h7
  refine ⟨h6, ?_, ?_, ?_⟩
  · cases a with
    | none => simp at h7
    | some a => rw [h1]; rfl
  · cases b with
    | none => simp at h7
    | some a => rw [h2]; rfl
  · cases c with
    | none => simp at h7
    | some a => rw [h3]; rfl
theorem step3_bad {f : Bool} {a b c : Option Int} {x y z : Int} {g : Bool} (h : Step3 f a b c x y z g) (hn : (a.isNone || b.isNone || c.isNone) = true) : x = 0 ∧ y = 0 ∧ z = 0 ∧ g = true := by
  obtain ⟨h1, h2, h3, h4⟩ := h
  rw [hn] at h1 h2 h3 h4
  exact ⟨h1, h2, h3, by rw [h4]; simp⟩

theorem after_keep {b off : Nat} {g : Bool} {w w' : World} (h : Below w.heap.size w w') (hc : w.cell? ⟨b, off, none⟩ = some (.bool g)) (hf : w.frozen? ⟨b, off, none⟩ = false) : After ⟨b, off, none⟩ (g || false) w w' := after_of (o := some 0) h hc hf
theorem row3 {w : World} {b : Nat} {x y z : Int} (h0 : w.cell? ⟨b, 0, none⟩ = some (.int .i64 x)) (h1 : w.cell? ⟨b, 1, none⟩ = some (.int .i64 y)) (h2 : w.cell? ⟨b, 2, none⟩ = some (.int .i64 z)) : NRow w (some ⟨b, 0, none⟩) [x, y, z] :=
  Or.inr ⟨b, 0, rfl, fun k hk => by
    match k, hk with
    | 0, _ => exact h0
    | 1, _ => exact h1
    | 2, _ => exact h2⟩

set_option maxHeartbeats 1000000 in
theorem vdot_law (b off : Nat) (f : Bool) (x0 x1 x2 y0 y1 y2 : Int) (W : World) (hc : W.cell? ⟨b, off, none⟩ = some (.bool f)) (hf : W.frozen? ⟨b, off, none⟩ = false) :
    Calls Try.prog 92 #[.pointer (some ⟨b, off, none⟩), .agg #[.int .i64 (x0), .int .i64 (x1), .int .i64 (x2)], .agg #[.int .i64 (y0), .int .i64 (y1), .int .i64 (y2)]] W fun e W' => ∃ v g, e = .returned (.int .i64 v) ∧ Hid (Step f (dot [x0, x1, x2] [y0, y1, y2]) v g) ∧ Hid (After ⟨b, off, none⟩ g W W') := by
  have m1 : b < W.heap.size := World.block_lt_of_cell? _ _ hc
  have HC : Hid _ := hc
  have HF : Hid _ := hf
  clear hc hf
  go_enter Try.func92, Try.ntmps92
  go_wp2_with (fail)
  refine (fdot_any b off f [x0, x1, x2] [y0, y1, y2] _ _ 3 3 _ (by rw [World.cell?_alloc_past _ _ _ (by simp; omega), World.cell?_alloc_past _ _ _ (by simp; omega), World.cell?_alloc_past _ _ _ (by simp; omega), World.cell?_alloc_past _ _ _ m1]; exact HC.out) (by rw [((new_after _ _).frozen (by simp; omega)), ((new_after _ _).frozen (by simp; omega)), ((new_after _ _).frozen (by simp; omega)), ((new_after _ _).frozen m1)]; exact HF.out) (by simp) (by simp) (row3 (by simp [go_sem]) (by simp [go_sem]) (by simp [go_sem])) (row3 (by simp [go_sem]) (by simp [go_sem]) (by simp [go_sem]))).mono ?_
  rintro e W1 ⟨v, g, rfl, S, A⟩
  have HA : Hid (After ⟨b, off, none⟩ g W W1) := (((((Leaves.refl _ _).alloc _).alloc _).alloc _).alloc _).same A.out |>.done A.out.cell A.out.frozen
  clear A
  go_wp2_with (fail)
  go_ret
  exact ⟨v, g, rfl, S, HA⟩

set_option maxHeartbeats 1000000 in
theorem vadd_law (b off : Nat) (f : Bool) (x0 x1 x2 y0 y1 y2 : Int) (W : World) (hc : W.cell? ⟨b, off, none⟩ = some (.bool f)) (hf : W.frozen? ⟨b, off, none⟩ = false) :
    Calls Try.prog 53 #[.pointer (some ⟨b, off, none⟩), .agg #[.int .i64 (x0), .int .i64 (x1), .int .i64 (x2)], .agg #[.int .i64 (y0), .int .i64 (y1), .int .i64 (y2)]] W fun e W' => ∃ v0 v1 v2 g, e = .returned (.agg #[.int .i64 (v0), .int .i64 (v1), .int .i64 (v2)]) ∧ Hid (Step3 f (add x0 y0) (add x1 y1) (add x2 y2) v0 v1 v2 g) ∧ Hid (After ⟨b, off, none⟩ g W W') := by
  have m1 : b < W.heap.size := World.block_lt_of_cell? _ _ hc
  have HC : Hid _ := hc
  have HF : Hid _ := hf
  clear hc hf
  go_enter Try.func53, Try.ntmps53
  go_wp2_with (fail)
  refine (each_add_any (W.heap.size + 1 + 1 + 1) false _ _ _ _ _ _ _ (by simp [go_sem]) (by simp [go_sem])).mono ?_
  rintro e W1 ⟨g, rfl, SG, A⟩
  have hp := A.out.cellOf (q := ⟨b, off, none⟩) (v := .bool f) (by rw [World.cell?_alloc_past _ _ _ (by simp; omega), World.cell?_alloc_past _ _ _ (by simp; omega), World.cell?_alloc_past _ _ _ (by simp; omega), World.cell?_alloc_past _ _ _ m1]; exact HC.out) (by simp; omega)
  have hpf := A.out.frozenOf (q := ⟨b, off, none⟩) (v := .bool f) (by rw [World.cell?_alloc_past _ _ _ (by simp; omega), World.cell?_alloc_past _ _ _ (by simp; omega), World.cell?_alloc_past _ _ _ (by simp; omega), World.cell?_alloc_past _ _ _ m1]; exact HC.out) (by rw [((new_after _ _).frozen (by simp; omega)), ((new_after _ _).frozen (by simp; omega)), ((new_after _ _).frozen (by simp; omega)), ((new_after _ _).frozen m1)]; exact HF.out) (by simp; omega)
  have HL : Hid (Leaves ⟨b, off, none⟩ W W1) := (((((Leaves.refl _ _).alloc _).alloc _).alloc _).alloc _).after A.out (by simp; omega)
  have ho := A.out.cell
  have r0 := A.out.cellOf (q := ⟨W.heap.size + 1 + 1, 0, none⟩) (v := .int .i64 0) (by simp [go_sem]) (by simp)
  have r1 := A.out.cellOf (q := ⟨W.heap.size + 1 + 1, 1, none⟩) (v := .int .i64 0) (by simp [go_sem]) (by simp)
  have r2 := A.out.cellOf (q := ⟨W.heap.size + 1 + 1, 2, none⟩) (v := .int .i64 0) (by simp [go_sem]) (by simp)
  have f0 := A.out.frozenOf (q := ⟨W.heap.size + 1 + 1, 0, none⟩) (v := .int .i64 0) (by simp [go_sem]) (by simp [go_sem]) (by simp)
  have f1 := A.out.frozenOf (q := ⟨W.heap.size + 1 + 1, 1, none⟩) (v := .int .i64 0) (by simp [go_sem]) (by simp [go_sem]) (by simp)
  have f2 := A.out.frozenOf (q := ⟨W.heap.size + 1 + 1, 2, none⟩) (v := .int .i64 0) (by simp [go_sem]) (by simp [go_sem]) (by simp)
  clear A HC HF
  go_wp2_with (fail)
  refine (tell3_any b off (W.heap.size + 1 + 1 + 1) f g _ _ _ W1 hp hpf ho).mono ?_
  rintro e W2 ⟨rfl, A⟩
  have HL2 : Hid (Leaves ⟨b, off, none⟩ W W2) := HL.out.same A.out
  have hp := A.out.cell
  have hpf := A.out.frozen
  have f0 := A.out.frozenOf r0 f0 (by simp; omega)
  have f1 := A.out.frozenOf r1 f1 (by simp; omega)
  have f2 := A.out.frozenOf r2 f2 (by simp; omega)
  have r0 := A.out.cellOf r0 (by simp; omega)
  have r1 := A.out.cellOf r1 (by simp; omega)
  have r2 := A.out.cellOf r2 (by simp; omega)
  have n1 : b ≠ W.heap.size + 1 + 1 := by omega
  have n2 : W.heap.size + 1 + 1 ≠ b := by omega
  clear A HL
  go_wp2_with (fail)
  refine bodyPost_ret (by simp [results, Try.results53, go_sem, r0, r1, r2]; try rfl) rfl ?_
  refine ⟨_, _, _, _, rfl, step3_of SG.out, (((HL2.out.set (by simp; omega) _).set (by simp; omega) _).set (by simp; omega) _).done ?_ ?_⟩
  · simp [go_sem, hp]
  · simp [go_sem, hpf]

end Go.Proofs.Ytocdompopadanaa
