/- Which shapes may be. -/
import Derived.Test.YtccdgpijjgeedaaShC
namespace Go.Proofs.Ytccdgpijjgeedaa
open Go.RowKit Go.Shelf
set_option linter.unusedVariables false

def mayP (L : List Pt) : Bool := decide (4 ≤ L.length ∧ L.length ≤ 12) && (L.all (fun p => p.inB 65536) && decide L.Nodup)
theorem Lies.take {w : World} {o : Option Addr} {n c : Nat} {L : List Pt} (h : Lies w (.slice o L.length c) L) (k : Nat) (hk : k ≤ L.length) : Lies w (.slice o k c) (L.take k) := by
  obtain ⟨o', c', e, h1, h2, h3⟩ := h.form
  simp only [Value.slice.injEq, true_and] at e
  obtain ⟨rfl, rfl⟩ := e
  have hl : (L.take k).length = k := by simp; omega
  refine ⟨o, c, by rw [hl], by omega, h2, fun i hi => ?_⟩
  rw [hl] at hi
  obtain ⟨g, off, e, a, b, c⟩ := h3 i (by omega)
  rw [pt_take hi]
  exact ⟨g, off, e, a, b, c⟩
theorem all_snoc (L : List Pt) (f : Pt → Bool) (k : Nat) (hk : k < L.length) : (L.take (k + 1)).all f = ((L.take k).all f && f (pt L k)) := by
  rw [take_pt hk]; simp
theorem nodup_snoc (L : List Pt) (k : Nat) (hk : k < L.length) (h : (L.take k).Nodup) : (L.take (k + 1)).Nodup ↔ pt L k ∉ L.take k := by
  rw [take_pt hk, List.nodup_append]
  constructor
  · intro hh hm
    exact hh.2.2 _ hm _ (by simp) rfl
  · intro hn
    refine ⟨h, by simp, fun a ha b hb e => hn ?_⟩
    rw [List.mem_singleton] at hb
    rw [← hb, ← e]; exact ha

def halfOk (n : Int) : Bool := decide (1 ≤ n ∧ n ≤ 65536)
end Go.Proofs.Ytccdgpijjgeedaa
