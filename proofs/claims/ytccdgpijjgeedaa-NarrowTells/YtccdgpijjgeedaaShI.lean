/- A brick's corners, the three straight ways, a list's clone. -/
import Derived.Test.YtccdgpijjgeedaaShF
import Derived.Test.YtccdgpijjgeedaaShH
import Derived.Lib.BufferMore
namespace Go.Proofs.Ytccdgpijjgeedaa
open Go.RowKit Go.Shelf
set_option linter.unusedVariables false

def cornersP (h : Pt) : List Pt := [⟨-h.x, -h.y, -h.z⟩, ⟨-h.x, -h.y, h.z⟩, ⟨-h.x, h.y, -h.z⟩, ⟨-h.x, h.y, h.z⟩, ⟨h.x, -h.y, -h.z⟩, ⟨h.x, -h.y, h.z⟩, ⟨h.x, h.y, -h.z⟩, ⟨h.x, h.y, h.z⟩]
def straightP : List Pt := [⟨1, 0, 0⟩, ⟨0, 1, 0⟩, ⟨0, 0, 1⟩]
def sg (i : Nat) (x : Int) : Int := if i = 0 then -x else x
theorem corner_next (h : Pt) (i j k : Nat) (hi : i < 2) (hj : j < 2) (hk : k < 2) : (cornersP h).take (4 * i + 2 * j + k) ++ [⟨sg i h.x, sg j h.y, sg k h.z⟩] = (cornersP h).take (4 * i + 2 * j + (k + 1)) := by
  have h1 : i = 0 ∨ i = 1 := by omega
  have h2 : j = 0 ∨ j = 1 := by omega
  have h3 : k = 0 ∨ k = 1 := by omega
  rcases h1 with rfl | rfl <;> rcases h2 with rfl | rfl <;> rcases h3 with rfl | rfl <;> rfl
end Go.Proofs.Ytccdgpijjgeedaa
