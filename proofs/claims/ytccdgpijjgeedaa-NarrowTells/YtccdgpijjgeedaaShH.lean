/- Which shapes may be: formed, Check. -/
import Derived.Test.YtccdgpijjgeedaaShG
namespace Go.Proofs.Ytccdgpijjgeedaa
open Go.RowKit Go.Shelf
set_option linter.unusedVariables false

/-- A shape's numbers. -/
structure Sh where
  kind : Int
  radius : Int
  half : Pt
  pts : List Pt
def Sh.v (s : Sh) (pv : Value) : Value := .agg #[.int .i64 s.kind, .int .i64 s.radius, .int .i64 s.half.x, .int .i64 s.half.y, .int .i64 s.half.z, pv]
def inR (n a b : Int) : Bool := decide (a ≤ n ∧ n ≤ b)
def formP (s : Sh) : Bool :=
  if s.kind = 1 then inR s.radius 1 16384
  else if s.kind = 2 then inR s.radius 1 16384 && halfOk s.half.x
  else if s.kind = 3 then inR s.radius 0 16384 && (halfOk s.half.x && (halfOk s.half.y && halfOk s.half.z))
  else if s.kind = 4 then inR s.radius 0 16384 && mayP s.pts
  else false
def checkP (s : Sh) : Int := if formP s then (if s.kind = 4 ∧ flatP s.pts = true then 51 else 0) else 50
theorem between_is (n a b : Int) (w : World) (t : Bool) (h : inR n a b = t) :
    Calls Try.prog 105 #[.int .i64 n, .int .i64 a, .int .i64 b] w fun e w' => e = .returned (.bool t) ∧ w' = w := by
  subst h; exact between_any n a b w
theorem may_parts {L : List Pt} (h : mayP L = true) : 4 ≤ L.length ∧ L.length ≤ 12 ∧ (∀ p ∈ L, p.inB 65536 = true) ∧ L.Nodup := by
  unfold mayP at h
  simp only [Bool.and_eq_true, decide_eq_true_eq, List.all_eq_true] at h
  exact ⟨h.1.1, h.1.2, h.2.1, h.2.2⟩
theorem form_hull {s : Sh} (h : formP s = true) (k : s.kind = 4) : mayP s.pts = true := by
  unfold formP at h
  rw [if_neg (by omega), if_neg (by omega), if_neg (by omega), if_pos k, Bool.and_eq_true] at h
  exact h.2
end Go.Proofs.Ytccdgpijjgeedaa
