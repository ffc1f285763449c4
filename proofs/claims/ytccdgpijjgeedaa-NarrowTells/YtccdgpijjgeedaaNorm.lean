/- Package fx's call Norm: what it returns, and that but for the flag it leaves all memory as it was. -/
import Derived.Test.YtccdgpijjgeedaaWork2
import Derived.Deep.RegionWith
namespace Go.Proofs.Ytccdgpijjgeedaa
open Go.RowKit Fx

theorem sum_end {w wr w1 w2 : World} {u0 u1 : Value} (v0 v1 : Value) (HB : Below w.heap.size w wr) (hsz : w.heap.size < wr.heap.size) (hb1 : Below wr.drew.heap.size wr.drew w1) (hb2 : Below w1.heap.size w1 w2)
    (r0 : w2.cell? ⟨w.heap.size, 0, none⟩ = some u0) (r1 : w2.cell? ⟨w.heap.size, 1, none⟩ = some u1) (s0 : w2.frozen? ⟨w.heap.size, 0, none⟩ = false) (s1 : w2.frozen? ⟨w.heap.size, 1, none⟩ = false) :
    Below w.heap.size w ((w2.setCell ⟨w.heap.size, 0, none⟩ v0).setCell ⟨w.heap.size, 1, none⟩ v1) ∧ w.heap.size < ((w2.setCell ⟨w.heap.size, 0, none⟩ v0).setCell ⟨w.heap.size, 1, none⟩ v1).heap.size ∧
    ((w2.setCell ⟨w.heap.size, 0, none⟩ v0).setCell ⟨w.heap.size, 1, none⟩ v1).cell? ⟨w.heap.size, 0, none⟩ = some v0 ∧ ((w2.setCell ⟨w.heap.size, 0, none⟩ v0).setCell ⟨w.heap.size, 1, none⟩ v1).cell? ⟨w.heap.size, 1, none⟩ = some v1 ∧
    ((w2.setCell ⟨w.heap.size, 0, none⟩ v0).setCell ⟨w.heap.size, 1, none⟩ v1).frozen? ⟨w.heap.size, 0, none⟩ = false ∧ ((w2.setCell ⟨w.heap.size, 0, none⟩ v0).setCell ⟨w.heap.size, 1, none⟩ v1).frozen? ⟨w.heap.size, 1, none⟩ = false := by
  have a1 : Below w.heap.size w w1 := (HB.drew).trans (hb1.mono (by simp; omega))
  have a2 := below_step a1 hb2
  have h1 := hb1.size
  have h2 := hb2.size
  simp at h1
  refine ⟨(a2.setCell (Nat.le_refl _) _).setCell (Nat.le_refl _) _, ?_, ?_, ?_, ?_, ?_⟩
  · simp; omega
  · simp [go_sem, r0]
  · simp [go_sem, r1]
  · simp [go_sem, s0]
  · simp [go_sem, s1]

end Go.Proofs.Ytccdgpijjgeedaa
