/- Package pose's small functions of points and boxes, all inputs. -/
import Derived.Test.YtocdompopadanaaShJ
namespace Go.Proofs.Ytocdompopadanaa
open Go.RowKit Go.Shelf
set_option linter.unusedVariables false

def lowI (a b : Int) : Int := if b < a then b else a
def highI (a b : Int) : Int := if b > a then b else a
def Pt.plus (p q : Pt) : Pt := ⟨IntKind.i64.wrap (p.x + q.x), IntKind.i64.wrap (p.y + q.y), IntKind.i64.wrap (p.z + q.z)⟩
def Pt.lesser (p q : Pt) : Pt := ⟨lowI p.x q.x, lowI p.y q.y, lowI p.z q.z⟩
def Pt.greater (p q : Pt) : Pt := ⟨highI p.x q.x, highI p.y q.y, highI p.z q.z⟩
def Pt.le (p q : Pt) : Bool := decide (p.x ≤ q.x ∧ p.y ≤ q.y ∧ p.z ≤ q.z)
/-- A box. -/
structure Bx where
  lo : Pt
  hi : Pt
def Bx.v (b : Bx) : Value := .agg #[.int .i64 b.lo.x, .int .i64 b.lo.y, .int .i64 b.lo.z, .int .i64 b.hi.x, .int .i64 b.hi.y, .int .i64 b.hi.z]
def Bx.meet (a b : Bx) : Bool := a.lo.le b.hi && b.lo.le a.hi
def Bx.join (a b : Bx) : Bx := ⟨a.lo.lesser b.lo, a.hi.greater b.hi⟩
set_option maxHeartbeats 1000000 in
theorem pthrice_any (n : Int) (w : World) :
    Calls Try.prog 22 #[.int .i64 n] w fun e W => e = .returned (Pt.v ⟨n, n, n⟩) ∧ Below w.heap.size w W := by
  unfold Pt.v
  go_enter Try.func22, Try.ntmps22
  go_wp2
  exact bodyPost_ret (v := .agg #[.int .i64 n, .int .i64 n, .int .i64 n]) (by simp [results, Try.results22, go_sem]) rfl ⟨rfl, n_after w _⟩
set_option maxHeartbeats 1000000 in
theorem pplus_any (p q : Pt) (w : World) :
    Calls Try.prog 21 #[p.v, q.v] w fun e W => e = .returned (p.plus q).v ∧ Below w.heap.size w W := by
  obtain ⟨x, y, z⟩ := p
  obtain ⟨x', y', z'⟩ := q
  unfold Pt.v Pt.plus
  dsimp only at *
  obtain ⟨s1, h1⟩ : ∃ s, IntKind.i64.wrap (x + x') = s := ⟨_, rfl⟩
  obtain ⟨s2, h2⟩ : ∃ s, IntKind.i64.wrap (y + y') = s := ⟨_, rfl⟩
  obtain ⟨s3, h3⟩ : ∃ s, IntKind.i64.wrap (z + z') = s := ⟨_, rfl⟩
  rw [h1, h2, h3]
  go_enter Try.func21, Try.ntmps21
  go_wp2
  exact bodyPost_ret (v := .agg #[.int .i64 s1, .int .i64 s2, .int .i64 s3]) (by simp [results, Try.results21, go_sem]) rfl ⟨rfl, b_step (b_step (n_after w _) (n_after _ _)) (n_after _ _)⟩
set_option maxHeartbeats 1000000 in
theorem lesser_any (p q : Pt) (w : World) :
    Calls Try.prog 18 #[p.v, q.v] w fun e W => e = .returned (p.lesser q).v ∧ Below w.heap.size w W := by
  obtain ⟨x, y, z⟩ := p
  obtain ⟨x', y', z'⟩ := q
  unfold Pt.v Pt.lesser lowI
  dsimp only at *
  obtain ⟨s1, h1⟩ : ∃ s, (if x' < x then x' else x) = s := ⟨_, rfl⟩
  obtain ⟨s2, h2⟩ : ∃ s, (if y' < y then y' else y) = s := ⟨_, rfl⟩
  obtain ⟨s3, h3⟩ : ∃ s, (if z' < z then z' else z) = s := ⟨_, rfl⟩
  rw [h1, h2, h3]
  go_enter Try.func18, Try.ntmps18
  go_wp2
  exact bodyPost_ret (v := .agg #[.int .i64 s1, .int .i64 s2, .int .i64 s3]) (by simp [results, Try.results18, go_sem]) rfl ⟨rfl, b_step (b_step (n_after w _) (n_after _ _)) (n_after _ _)⟩
set_option maxHeartbeats 1000000 in
theorem greater_any (p q : Pt) (w : World) :
    Calls Try.prog 19 #[p.v, q.v] w fun e W => e = .returned (p.greater q).v ∧ Below w.heap.size w W := by
  obtain ⟨x, y, z⟩ := p
  obtain ⟨x', y', z'⟩ := q
  unfold Pt.v Pt.greater highI
  dsimp only at *
  obtain ⟨s1, h1⟩ : ∃ s, (if x' > x then x' else x) = s := ⟨_, rfl⟩
  obtain ⟨s2, h2⟩ : ∃ s, (if y' > y then y' else y) = s := ⟨_, rfl⟩
  obtain ⟨s3, h3⟩ : ∃ s, (if z' > z then z' else z) = s := ⟨_, rfl⟩
  rw [h1, h2, h3]
  go_enter Try.func19, Try.ntmps19
  go_wp2
  exact bodyPost_ret (v := .agg #[.int .i64 s1, .int .i64 s2, .int .i64 s3]) (by simp [results, Try.results19, go_sem]) rfl ⟨rfl, b_step (b_step (n_after w _) (n_after _ _)) (n_after _ _)⟩
set_option maxHeartbeats 1000000 in
theorem noneAbove_any (p q : Pt) (w : World) :
    Calls Try.prog 20 #[p.v, q.v] w fun e W => e = .returned (.bool (p.le q)) ∧ Below w.heap.size w W := by
  obtain ⟨x, y, z⟩ := p
  obtain ⟨x', y', z'⟩ := q
  unfold Pt.v Pt.le
  dsimp only at *
  by_cases h1 : x ≤ x'
  · by_cases h2 : y ≤ y'
    · go_enter Try.func20, Try.ntmps20
      go_wp2
      go_ret
      exact ⟨by simp [h1, h2], b_step (n_after w _) (n_after _ _)⟩
    · go_enter Try.func20, Try.ntmps20
      go_wp2
      go_ret
      exact ⟨by simp; omega, b_step (n_after w _) (n_after _ _)⟩
  · go_enter Try.func20, Try.ntmps20
    go_wp2
    go_ret
    exact ⟨by simp; omega, b_step (n_after w _) (n_after _ _)⟩
set_option maxHeartbeats 1000000 in
theorem meet_any (a b : Bx) (w0 : World) :
    Calls Try.prog 7 #[a.v, b.v] w0 fun e W => e = .returned (.bool (a.meet b)) ∧ Below w0.heap.size w0 W := by
  have H1 : Hid _ := fun w' => noneAbove_any a.lo b.hi w'
  have H2 : Hid _ := fun w' => noneAbove_any b.lo a.hi w'
  have HM : Hid (a.meet b = (a.lo.le b.hi && b.lo.le a.hi)) := rfl
  obtain ⟨R, hR⟩ : ∃ R, a.meet b = R := ⟨_, rfl⟩
  rw [hR]
  rw [hR] at HM
  clear hR
  generalize a.lo.le b.hi = r1 at *
  generalize b.lo.le a.hi = r2 at *
  obtain ⟨⟨x, y, z⟩, ⟨X, Y, Z⟩⟩ := a
  obtain ⟨⟨x', y', z'⟩, ⟨X', Y', Z'⟩⟩ := b
  unfold Pt.v at H1 H2
  unfold Bx.v
  dsimp only at *
  have B1 : Hid (Cells ((w0.alloc (.cells #[.int .i64 x, .int .i64 y, .int .i64 z, .int .i64 X, .int .i64 Y, .int .i64 Z] 25)).alloc (.cells #[.int .i64 x', .int .i64 y', .int .i64 z', .int .i64 X', .int .i64 Y', .int .i64 Z'] 25)) w0.heap.size [.int .i64 x, .int .i64 y, .int .i64 z, .int .i64 X, .int .i64 Y, .int .i64 Z]) := (Cells.new w0 [.int .i64 x, .int .i64 y, .int .i64 z, .int .i64 X, .int .i64 Y, .int .i64 Z] _).step (n_after _ _)
  have B2 : Hid (Cells ((w0.alloc (.cells #[.int .i64 x, .int .i64 y, .int .i64 z, .int .i64 X, .int .i64 Y, .int .i64 Z] 25)).alloc (.cells #[.int .i64 x', .int .i64 y', .int .i64 z', .int .i64 X', .int .i64 Y', .int .i64 Z'] 25)) (w0.heap.size + 1) [.int .i64 x', .int .i64 y', .int .i64 z', .int .i64 X', .int .i64 Y', .int .i64 Z']) := by have := Cells.new (w0.alloc (.cells #[.int .i64 x, .int .i64 y, .int .i64 z, .int .i64 X, .int .i64 Y, .int .i64 Z] 25)) [.int .i64 x', .int .i64 y', .int .i64 z', .int .i64 X', .int .i64 Y', .int .i64 Z'] 25; rwa [World.size_alloc] at this
  have hB : Hid (Below w0.heap.size w0 ((w0.alloc (.cells #[.int .i64 x, .int .i64 y, .int .i64 z, .int .i64 X, .int .i64 Y, .int .i64 Z] 25)).alloc (.cells #[.int .i64 x', .int .i64 y', .int .i64 z', .int .i64 X', .int .i64 Y', .int .i64 Z'] 25))) := b_step (n_after w0 _) (n_after _ _)
  go_enter Try.func7, Try.ntmps7
  go_wp2_with (fail)
  refine Calls.mono (H1.out _) ?_
  rintro e V ⟨rfl, h⟩
  have D1 := Cells.step B1.out h
  have D2 := Cells.step B2.out h
  have hD : Hid _ := b_step hB.out h
  clear h
  have s3 := (D1 3 _ rfl).1
  have s4 := (D1 4 _ rfl).1
  have s5 := (D1 5 _ rfl).1
  have t0 := (D2 0 _ rfl).1
  have t1 := (D2 1 _ rfl).1
  have t2 := (D2 2 _ rfl).1
  cases r1 with
  | false =>
    have e : R = false := HM.out
    subst e
    go_wp2_with (fail)
    go_ret
    exact ⟨rfl, hD.out⟩
  | true =>
    have e : R = r2 := HM.out
    subst e
    go_wp2_with (fail)
    refine Calls.mono (H2.out _) ?_
    rintro e V2 ⟨rfl, h⟩
    have hD : Hid _ := b_step hD.out h
    clear s3 s4 s5 t0 t1 t2
    go_wp2_with (fail)
    go_ret
    exact ⟨rfl, hD.out⟩
end Go.Proofs.Ytocdompopadanaa
