/- Package pose's small functions of points and boxes, all inputs. -/
import Derived.Test.YthcdpngkoejgpaaShJ
namespace Go.Proofs.Ythcdpngkoejgpaa
open Go.RowKit Go.Shelf
set_option linter.unusedVariables false

def lowI (a b : Int) : Int := if b < a then b else a
def highI (a b : Int) : Int := if b > a then b else a
def Pt.plus (p q : Pt) : Pt := ⟨IntKind.i64.wrap (p.x + q.x), IntKind.i64.wrap (p.y + q.y), IntKind.i64.wrap (p.z + q.z)⟩
def Pt.lesser (p q : Pt) : Pt := ⟨lowI p.x q.x, lowI p.y q.y, lowI p.z q.z⟩
def Pt.greater (p q : Pt) : Pt := ⟨highI p.x q.x, highI p.y q.y, highI p.z q.z⟩
def Pt.le (p q : Pt) : Bool := decide (p.x ≤ q.x ∧ p.y ≤ q.y ∧ p.z ≤ q.z)
/-- A box. -/
structure Bx where
  lo : Pt
  hi : Pt
def Bx.v (b : Bx) : Value := .agg #[.int .i64 b.lo.x, .int .i64 b.lo.y, .int .i64 b.lo.z, .int .i64 b.hi.x, .int .i64 b.hi.y, .int .i64 b.hi.z]
def Bx.meet (a b : Bx) : Bool := a.lo.le b.hi && b.lo.le a.hi
def Bx.join (a b : Bx) : Bx := ⟨a.lo.lesser b.lo, a.hi.greater b.hi⟩
set_option maxHeartbeats 1000000 in
theorem pplus_any (p q : Pt) (w : World) :
    Calls Try.prog 44 #[p.v, q.v] w fun e W => e = .returned (p.plus q).v ∧ Below w.heap.size w W := by
  obtain ⟨x, y, z⟩ := p
  obtain ⟨x', y', z'⟩ := q
  unfold Pt.v Pt.plus
  dsimp only at *
  obtain ⟨s1, h1⟩ : ∃ s, IntKind.i64.wrap (x + x') = s := ⟨_, rfl⟩
  obtain ⟨s2, h2⟩ : ∃ s, IntKind.i64.wrap (y + y') = s := ⟨_, rfl⟩
  obtain ⟨s3, h3⟩ : ∃ s, IntKind.i64.wrap (z + z') = s := ⟨_, rfl⟩
  rw [h1, h2, h3]
  go_enter Try.func44, Try.ntmps44
  go_wp2
  exact bodyPost_ret (v := .agg #[.int .i64 s1, .int .i64 s2, .int .i64 s3]) (by simp [results, Try.results44, go_sem]) rfl ⟨rfl, b_step (b_step (n_after w _) (n_after _ _)) (n_after _ _)⟩
end Go.Proofs.Ythcdpngkoejgpaa
