/- Package pose's Join and Grown, and the document's own Meet, Grown and Join: all inputs. -/
import Derived.Test.YthcdpngkoejgpaaPsA
namespace Go.Proofs.Ythcdpngkoejgpaa
open Go.RowKit Go.Shelf
set_option linter.unusedVariables false

def Bx.grown (a : Bx) (n : Int) : Bx := ⟨a.lo.plus ⟨IntKind.i64.wrap (-n), IntKind.i64.wrap (-n), IntKind.i64.wrap (-n)⟩, a.hi.plus ⟨n, n, n⟩⟩
theorem wrap_sub (x n : Int) : IntKind.i64.wrap (x - n) = IntKind.i64.wrap (x + IntKind.i64.wrap (-n)) := by simp only [IntKind.wrap_i64]; omega
theorem Cells.set6 {W : World} {b : Nat} {u0 u1 u2 u3 u4 u5 : Value} (h : Cells W b [u0, u1, u2, u3, u4, u5]) (v0 v1 v2 v3 v4 v5 : Value) : Cells ((((((W.setCell ⟨b, 0, none⟩ v0).setCell ⟨b, 1, none⟩ v1).setCell ⟨b, 2, none⟩ v2).setCell ⟨b, 3, none⟩ v3).setCell ⟨b, 4, none⟩ v4).setCell ⟨b, 5, none⟩ v5) b [v0, v1, v2, v3, v4, v5] :=
  (((((h.set 0 v0 (by simp)).set 1 v1 (by simp)).set 2 v2 (by simp)).set 3 v3 (by simp)).set 4 v4 (by simp)).set 5 v5 (by simp)
end Go.Proofs.Ythcdpngkoejgpaa
