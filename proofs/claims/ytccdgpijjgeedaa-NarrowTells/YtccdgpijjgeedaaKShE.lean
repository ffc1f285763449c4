/- Which shapes may be. -/
import Derived.Test.YtccdgpijjgeedaaKShA
import Derived.Test.YtccdgpijjgeedaaKShF
import Derived.Lib.BufferMore
namespace Go.Proofs.Ytccdgpijjgeedaa
open Go.RowKit Go.Shelf
set_option linter.unusedVariables false

def mayP (L : List Pt) : Bool := decide (4 ≤ L.length ∧ L.length ≤ 12) && (L.all (fun p => p.inB 65536) && decide L.Nodup)
theorem Lies.take {w : World} {o : Option Addr} {n c : Nat} {L : List Pt} (h : Lies w (.slice o L.length c) L) (k : Nat) (hk : k ≤ L.length) : Lies w (.slice o k c) (L.take k) := by
  obtain ⟨o', c', e, h1, h2, h3⟩ := h.form
  simp only [Value.slice.injEq, true_and] at e
  obtain ⟨rfl, rfl⟩ := e
  have hl : (L.take k).length = k := by simp; omega
  refine ⟨o, c, by rw [hl], by omega, h2, fun i hi => ?_⟩
  rw [hl] at hi
  obtain ⟨g, off, e, a, b, c⟩ := h3 i (by omega)
  rw [pt_take hi]
  exact ⟨g, off, e, a, b, c⟩
theorem all_snoc (L : List Pt) (f : Pt → Bool) (k : Nat) (hk : k < L.length) : (L.take (k + 1)).all f = ((L.take k).all f && f (pt L k)) := by
  rw [take_pt hk]; simp
theorem nodup_snoc (L : List Pt) (k : Nat) (hk : k < L.length) (h : (L.take k).Nodup) : (L.take (k + 1)).Nodup ↔ pt L k ∉ L.take k := by
  rw [take_pt hk, List.nodup_append]
  constructor
  · intro hh hm
    exact hh.2.2 _ hm _ (by simp) rfl
  · intro hn
    refine ⟨h, by simp, fun a ha b hb e => hn ?_⟩
    rw [List.mem_singleton] at hb
    rw [← hb, ← e]; exact ha

def halfOk (n : Int) : Bool := decide (1 ≤ n ∧ n ≤ 65536)
end Go.Proofs.Ytccdgpijjgeedaa
/- Points of one plane: package shape's test. -/
namespace Go.Proofs.Ytccdgpijjgeedaa
open Go.RowKit Go.Shelf
set_option linter.unusedVariables false

end Go.Proofs.Ytccdgpijjgeedaa
/- Which shapes may be: formed, Check. -/
namespace Go.Proofs.Ytccdgpijjgeedaa
open Go.RowKit Go.Shelf
set_option linter.unusedVariables false

/-- A shape's numbers. -/
structure Sh where
  kind : Int
  radius : Int
  half : Pt
  pts : List Pt
def Sh.v (s : Sh) (pv : Value) : Value := .agg #[.int .i64 s.kind, .int .i64 s.radius, .int .i64 s.half.x, .int .i64 s.half.y, .int .i64 s.half.z, pv]
def inR (n a b : Int) : Bool := decide (a ≤ n ∧ n ≤ b)
def formP (s : Sh) : Bool :=
  if s.kind = 1 then inR s.radius 1 16384
  else if s.kind = 2 then inR s.radius 1 16384 && halfOk s.half.x
  else if s.kind = 3 then inR s.radius 0 16384 && (halfOk s.half.x && (halfOk s.half.y && halfOk s.half.z))
  else if s.kind = 4 then inR s.radius 0 16384 && mayP s.pts
  else false
def checkP (s : Sh) : Int := if formP s then (if s.kind = 4 ∧ flatP s.pts = true then 51 else 0) else 50
theorem between_is (n a b : Int) (w : World) (t : Bool) (h : inR n a b = t) :
    Calls Try.prog 105 #[.int .i64 n, .int .i64 a, .int .i64 b] w fun e w' => e = .returned (.bool t) ∧ w' = w := by
  subst h; exact between_any n a b w
theorem may_parts {L : List Pt} (h : mayP L = true) : 4 ≤ L.length ∧ L.length ≤ 12 ∧ (∀ p ∈ L, p.inB 65536 = true) ∧ L.Nodup := by
  unfold mayP at h
  simp only [Bool.and_eq_true, decide_eq_true_eq, List.all_eq_true] at h
  exact ⟨h.1.1, h.1.2, h.2.1, h.2.2⟩
theorem form_hull {s : Sh} (h : formP s = true) (k : s.kind = 4) : mayP s.pts = true := by
  unfold formP at h
  rw [if_neg (by omega), if_neg (by omega), if_neg (by omega), if_pos k, Bool.and_eq_true] at h
  exact h.2
end Go.Proofs.Ytccdgpijjgeedaa
/- A brick's corners, the three straight ways, a list's clone. -/
namespace Go.Proofs.Ytccdgpijjgeedaa
open Go.RowKit Go.Shelf
set_option linter.unusedVariables false

def cornersP (h : Pt) : List Pt := [⟨-h.x, -h.y, -h.z⟩, ⟨-h.x, -h.y, h.z⟩, ⟨-h.x, h.y, -h.z⟩, ⟨-h.x, h.y, h.z⟩, ⟨h.x, -h.y, -h.z⟩, ⟨h.x, -h.y, h.z⟩, ⟨h.x, h.y, -h.z⟩, ⟨h.x, h.y, h.z⟩]
def straightP : List Pt := [⟨1, 0, 0⟩, ⟨0, 1, 0⟩, ⟨0, 0, 1⟩]
def sg (i : Nat) (x : Int) : Int := if i = 0 then -x else x
theorem corner_next (h : Pt) (i j k : Nat) (hi : i < 2) (hj : j < 2) (hk : k < 2) : (cornersP h).take (4 * i + 2 * j + k) ++ [⟨sg i h.x, sg j h.y, sg k h.z⟩] = (cornersP h).take (4 * i + 2 * j + (k + 1)) := by
  have h1 : i = 0 ∨ i = 1 := by omega
  have h2 : j = 0 ∨ j = 1 := by omega
  have h3 : k = 0 ∨ k = 1 := by omega
  rcases h1 with rfl | rfl <;> rcases h2 with rfl | rfl <;> rcases h3 with rfl | rfl <;> rfl
end Go.Proofs.Ytccdgpijjgeedaa
